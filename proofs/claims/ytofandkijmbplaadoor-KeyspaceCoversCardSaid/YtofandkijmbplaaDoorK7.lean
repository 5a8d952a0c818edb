/-
  The walk of KeyspaceCovers: from whatever arguments it answers true and only makes memory. Conditions: 'letters' holds six strings of one byte; the first argument reads as a slice of ints.
-/
import Derived.Test.YtofandkijmbplaaDoorKtD
import Derived.Test.YtofandkijmbplaaDoorKsZ
import Derived.Deep.RegionLawGrows
import Derived.Deep.DeepCutAuto
namespace Go.Proofs.YtofandkijmbplaaDoor
open Go.RowKit

theorem At.grownO {w a b : World} {g : Nat} {r : Option Nat} (h : At w [] g a) (k : a.grownBy b r) (hr : ∀ i, r = some i → w.heap.size ≤ i ∧ g < i) : At w [] g b := by
  obtain ⟨h1, hl, h0, A, n, c, q, k1, k2, hn, hb⟩ := h
  have hgl := blk_lt hb
  have hk : ∀ i, i ≤ g → b.heap[i]? = a.heap[i]? := fun i hi => k.block i (by omega) (fun e => by have := (hr i e.symm).2; omega)
  exact ⟨⟨h1.1.grown k h1.1.size (fun i e => (hr i e).1), fun q hq => by cases hq⟩, hl.keep (hk _ (by omega)), h0, A, n, c, q, k1, k2, hn.keep (fun i hi => hk i (by omega)), (hk g (Nat.le_refl _)).trans hb⟩
theorem below_step2 {x a b : World} (h : Below x.heap.size x a) (k : Below a.heap.size a b) : Below x.heap.size x b := h.trans (k.mono h.size)
theorem below_da (w : World) (o : Obj) : Below w.drew.heap.size w.drew (w.alloc o).drew := (Below.refl _ w.drew).alloc (Nat.le_refl _) o
theorem rgs_stepA {w w' : World} {g : Nat} {A : Option Addr} {l : List Rg} (h : Rgs w w.heap.size A l) (k : TStep w g w') (hg : ∀ a, A = some a → g < a.block) : Rgs w' w'.heap.size A l := fun hn => by
  obtain ⟨b, o, e, hb, hc⟩ := h hn
  have hbg := hg _ e
  simp only at hbg
  have hk := k.2.block b hb (fun e2 => by have := Option.some.inj e2; omega)
  refine ⟨b, o, e, Nat.lt_of_lt_of_le hb k.2.size, fun i hi => ?_⟩
  obtain ⟨h1, h2, h3, h4⟩ := hc i hi
  exact ⟨(World.cell?_of_block hk).trans h1, (World.cell?_of_block hk).trans h2, (World.cell?_of_block hk).trans h3, (World.cell?_of_block hk).trans h4⟩
theorem ct_yes {l : List Rg} {k : Nat} {x : ByteArray} (hk : k < l.length) (h : l[k].has x = true) : cnt (l.take (k + 1)) x = cnt (l.take k) x + 1 := by
  rw [List.take_succ_eq_append_getElem hk]; unfold cnt; rw [List.countP_append]; simp [h]
theorem ct_no {l : List Rg} {k : Nat} {x : ByteArray} (hk : k < l.length) (h : l[k].has x = false) : cnt (l.take (k + 1)) x = cnt (l.take k) x := by
  rw [List.take_succ_eq_append_getElem hk]; unfold cnt; rw [List.countP_append]; simp [h]
theorem ct_le (l : List Rg) (x : ByteArray) : cnt l x ≤ l.length := List.countP_le_length
theorem cmp_neg {a b : Bd} (h : a.cmp b < 0) : a.cmp b = -1 := by have := cmp_range a b; omega
theorem keep_app (a b : List Rg) : keep (a ++ b) = keep a ++ keep b := List.filter_append _ _
theorem turn_cov (l : List Rg) (n : Nat) (p : Bd) : Cov (keep l) p ↔ Cov (keep (l.drop n ++ l.take n)) p := by
  conv => lhs; rw [← List.take_append_drop n l]
  rw [keep_app, keep_app, cov_append, cov_append]
  exact ⟨fun h => h.symm, fun h => h.symm⟩
theorem rgs_named2 {w : World} {base n : Nat} {v : Value} {a b : List Rg} (h : w.ownsRow base 30 4 v n ([] ++ flat a ++ flat b)) (hn : n = (a ++ b).length) : ∃ (N : Nat) (A : Option Addr) (c : Nat), v = .slice A N c ∧ Hid (N = (a ++ b).length) ∧ N ≤ c ∧ c ≤ maxLen ∧ Rgs w w.heap.size A (a ++ b) := by
  subst hn
  rw [List.nil_append, ← flat_append] at h
  obtain ⟨A, c, h1, h2, h3, h4⟩ := own_rgs5 h
  exact ⟨_, A, c, h1, Lib.hid rfl, h2, h3, h4⟩
theorem union_key9 (l : List Rg) (N : Nat) (A : Option Addr) (c : Nat) (w : World) (hN : N = l.length) (hl : Rgs w w.heap.size A l) (hn : l.length ≤ 1000) (hc : N ≤ c) (hm : c ≤ maxLen) :
    Calls Tryd.prog 19 #[.slice A N c] w (UniP l w) := by subst hN; exact union_key l A c w hl hn hc hm

set_option maxRecDepth 100000 in
set_option maxHeartbeats 3000000 in
theorem covers_walk (A : Option Addr) (n0 cp : Nat) (t : Int) (w : World) (hl : Lets w) (hw : 0 < w.heap.size) (hnc : n0 ≤ cp) (hc : cp ≤ maxLen) (hN : Nums w w.heap.size A n0) :
    Calls Tryd.prog 5 #[.slice A n0 cp, .int .i64 t] w (LawP w) := by
  obtain ⟨i0, hi0, hz0, hz1, hz2⟩ := info_parts infoRange
  go_enter Tryd.func5, Tryd.ntmps5
  go_wp2_with fail
  refine (new_any A n0 cp _ hl hw hnc hc hN).mono ?_
  rintro e w1 ⟨g, hg1, rfl, hT, hb⟩
  have hA : At w [] g w1 := ⟨(Inv.nil w).below hb, hT⟩
  clear hb hT hl hN hnc hc
  go_wp2_with fail
  refine (next_any g _ _ hA.2 (by omega)).mono ?_
  rintro e w2 ⟨q, q0, q1, rfl, hst⟩
  replace q1 := next_lt q1 (by decide)
  replace hA := hA.step hst hg1 (fun _ h => by cases h)
  clear hst
  have hgB := hA.2.lt
  have hown0 := World.ownsRow_nil w2 (g + 1) 30 4
  obtain ⟨k0, rfl⟩ := Int.eq_ofNat_of_zero_le q0
  go_wp2_with fail
  go_loopw [6, 7] (fun out i wr => ∃ (k : Nat) (l : List Rg), 1 ≤ l.length + k ∧ l.length + k ≤ 6 ∧ i = .int .i64 k ∧ wr.ownsRow (g + 1) 30 4 out l.length (flat l) ∧ At w [] g wr) (fun _ i _ => (intOf i).toNat)
  case atStart => exact ⟨k0 + 1, [], by simp, by simp; omega, by congr 1; omega, hown0, hA⟩
  case round =>
    clear hA hown0 q1 q0 hgB
    obtain ⟨k, l, hk1, hk2, rfl, hown, hA⟩ := hrel
    by_cases hlt : 0 < k
    · go_wp2_with fail
      refine (range_any g _ hA.2).mono ?_
      rintro e w3 ⟨x, _, _, rfl, hst⟩
      have ho3 := own_step hown hst (by omega)
      replace hA := hA.step hst hg1 (fun _ h => by cases h)
      clear hst hown
      go_wp2_with (at_builtin; refine wpList_append_own _ rfl _ _ 23 rfl (g + 1) 30 i0 _ 4 48 Tryd.underlying23 hi0 hz0 hz1 hz2 rfl (by decide) _ _ _ rfl (own_below ho3 ((Below.refl _ _).alloc (Nat.le_refl _) _)) ⟨w3.heap.size, 0, none⟩ 1 1 [.string x.lo.key, .bool x.lo.top, .string x.hi.key, .bool x.hi.top] rfl rfl (news4 _ _ _ _ _ _) (ones4 _ _ _ _) ?c3 ?c4 ?c5 ?_)
      case c3 => unfold maxLen; omega
      case c4 => omega
      case c5 => have := hA.2.lt; simp; omega
      intro v' w4 hown' hgrow hnil
      go_wp2
      go_roundw
      case rel => exact ⟨k - 1, l ++ [x], by rw [List.length_append]; (show 1 ≤ l.length + 1 + (k - 1)); omega, by rw [List.length_append]; (show l.length + 1 + (k - 1) ≤ 6); omega, by congr 1; omega, by rw [List.length_append, flat_snoc]; exact hown', (hA.alloc _).grownO hgrow (fun i hi => by have := own_base ho3 hi; omega)⟩
      case measure => simp [intOf]; omega
    · obtain ⟨G, cap, cur, rfl, hG, hblk, hlcap, hcapm, htk⟩ := own_row hown rfl (by omega)
      have hcapm' := hcapm
      have hl1 : 1 ≤ l.length := by omega
      have hl6 : l.length ≤ 6 := by omega
      have HTK := Lib.hid htk
      have hHas := Lib.hid hblk
      unfold maxLen at hcapm
      clear htk hblk hown
      go_wp2_with fail
      obtain ⟨n, hm, hn⟩ : ∃ n : Nat, t % (l.length : Int) = (n : Int) ∧ n < l.length := by
        have m0 := Int.emod_nonneg t (b := (l.length : Int)) (by omega)
        have m1 := Int.emod_lt_of_pos t (b := (l.length : Int)) (by omega)
        exact ⟨(t % (l.length : Int)).toNat, by omega, by omega⟩
      refine (mod_any t (l.length : Int) _ (by omega) (by omega)).mono ?_
      rintro e w5 ⟨he5, rfl⟩
      rw [hm] at he5
      subst he5
      clear hm
      have c0 : (0 : Int) ≤ (n : Int) := by omega
      have c1' : (n : Int) ≤ (l.length : Int) := by omega
      have c3 : (n : Int) ≤ (cap : Int) := by omega
      have c4 : (l.length : Int) ≤ (cap : Int) := by omega
      go_upto_region 8 with fail
      go_cut [9, 10] (fun s9 s10 wx => ∃ (U : List Rg) (A1 : Option Addr) (c1 : Nat) (A2 : Option Addr) (c2 : Nat), Hid (Uni l U) ∧ s9 = .slice A1 U.length c1 ∧ s10 = .slice A2 U.length c2 ∧ U.length ≤ c1 ∧ c1 ≤ maxLen ∧ U.length ≤ c2 ∧ c2 ≤ maxLen ∧ At w [] g wx ∧ Hid (Has wx G 30 cur) ∧ Rgs wx wx.heap.size A1 U ∧ Rgs wx wx.heap.size A2 U ∧ ∀ a, A1 = some a → g < a.block)
      case first =>
        have d1 : ¬ cap = n := by omega
        have p1 : n ≤ l.length := by omega
        have p3 : 0 < 0 + (l.length - n) := by omega
        have p4 : 0 + (l.length - n) ≤ maxLen := by unfold maxLen; omega
        have p5 : (0 + (l.length - n)) * 48 ≤ 140737488355328 := by omega
        have q4 : 0 + (l.length - n) + n ≤ maxLen := by unfold maxLen; omega
        have q5 : (0 + (l.length - n) + n) * 48 ≤ 140737488355328 := by omega
        have q6 := Lib.hid (show 0 + (l.length - n) + n = (l.drop n ++ l.take n).length by rw [List.length_append, List.length_drop, List.length_take]; omega)
        have hR0 : Rgs wr.drew wr.drew.heap.size (some ⟨G, 0, none⟩) l := rgs_of_row (w := wr.drew) hHas.out (row_of_take HTK.out)
        have h1000 : l.length ≤ 1000 := by omega
        have h1001 : (l.drop n ++ l.take n).length ≤ 1000 := by rw [← q6.out]; omega
        go_region_law (first | (refine step_append_grows (w := World.alloc (World.drew wr) (.cells #[] 30)) (o := ⟨some 42, _, _, _, _, _⟩) rfl (.tmp 38) (.tmp 41) 23 (by rfl) 30 i0 _ 4 48 Tryd.underlying23 hi0 hz0 hz1 hz2 rfl (by decide) (some ⟨wr.heap.size, 0, none⟩) 0 0 [] (by simp [Act.eval]) (fun e => by cases e) rfl (fun b e j u h => by simp at h) ⟨G, n * 4, none⟩ (l.length - n) (cap - n) (flat (l.drop n)) (by simp [Act.eval]) flat_drop_len (cells_drop (Has.below (show Has (World.drew wr) G 30 cur from hHas.out) ((Below.refl _ (World.drew wr)).alloc (Nat.le_refl _) (.cells #[] 30))) HTK.out p1) (flat_ones _) p3 p4 p5 ?_; intro v1 wa hown1 hgrow1; have hs1 : (World.drew wr).heap.size ≤ _ := Below.size ((Below.refl _ (World.drew wr)).alloc (Nat.le_refl _) (.cells #[] 30)); have hba : Below (World.drew wr).heap.size (World.drew wr) wa := Below.trans ((Below.refl _ (World.drew wr)).alloc (Nat.le_refl _) (.cells #[] 30)) ((blw_grown hgrow1).mono (Below.size ((Below.refl _ (World.drew wr)).alloc (Nat.le_refl _) (.cells #[] 30))))) | (refine step_append_grows (w := World.alloc w6 (.cells #[] 30)) (o := ⟨some 42, _, _, _, _, _⟩) rfl (.tmp 38) (.tmp 41) 23 (by rfl) 30 i0 _ 4 48 Tryd.underlying23 hi0 hz0 hz1 hz2 rfl (by decide) (some ⟨w6.heap.size, 0, none⟩) 0 0 [] (by simp [Act.eval]) (fun e => by cases e) rfl (fun b e j u h => by simp at h) ⟨G, n * 4, none⟩ (l.length - n) (cap - n) (flat (l.drop n)) (by simp [Act.eval]) flat_drop_len (cells_drop (Has.below (show Has (World.drew wr) G 30 cur from hHas.out) (hbu.alloc hbu.size (.cells #[] 30))) HTK.out p1) (flat_ones _) p3 p4 p5 ?_; intro v1 wa hown1 hgrow1; have hs1 : (World.drew wr).heap.size ≤ _ := Below.size (hbu.alloc hbu.size (.cells #[] 30)); have hba : Below (World.drew wr).heap.size (World.drew wr) wa := Below.trans (hbu.alloc hbu.size (.cells #[] 30)) ((blw_grown hgrow1).mono (Below.size (hbu.alloc hbu.size (.cells #[] 30))))) | (refine step_append_grows (w := w6) (o := ⟨some 42, _, _, _, _, _⟩) rfl (.tmp 38) (.tmp 41) 23 (by rfl) 30 i0 _ 4 48 Tryd.underlying23 hi0 hz0 hz1 hz2 rfl (by decide) (some ⟨wr.heap.size, 0, none⟩) 0 0 [] (by simp [Act.eval]) (fun e => by cases e) rfl (fun b e j u h => by simp at h) ⟨G, n * 4, none⟩ (l.length - n) (cap - n) (flat (l.drop n)) (by simp [Act.eval]) flat_drop_len (cells_drop (Has.below (show Has (World.drew wr) G 30 cur from hHas.out) hbu) HTK.out p1) (flat_ones _) p3 p4 p5 ?_; intro v1 wa hown1 hgrow1; have hs1 : (World.drew wr).heap.size ≤ _ := Below.size hbu; have hba : Below (World.drew wr).heap.size (World.drew wr) wa := Below.trans hbu ((blw_grown hgrow1).mono (Below.size hbu))) | (refine step_append_ownv (w := wa) (o := ⟨some 46, _, _, _, _, _⟩) rfl (.tmp 42) (.tmp 45) 23 (by rfl) _ 30 i0 _ 4 48 Tryd.underlying23 hi0 hz0 hz1 hz2 rfl (by decide) v1 (0 + (l.length - n)) ([] ++ flat (l.drop n)) (by simp [Act.eval]) hown1 ⟨G, 0, none⟩ n cap (flat (l.take n)) (by simp [Act.eval]) (flat_take_len p1) (cells_take (Has.below (show Has (World.drew wr) G 30 cur from hHas.out) hba) HTK.out p1) (flat_ones _) q4 q5 hgrow1.size ?_; intro v2 wb hown2 hgrow2 _; obtain ⟨N, A', c', rfl, hN, hlc', hcm', hRV⟩ := rgs_named2 hown2 q6.out; have hbb : Below (World.drew wr).heap.size (World.drew wr) wb := Below.grown hba hgrow2 (Below.size hba) (fun i hi => Nat.le_trans hs1 (own_base hown1 hi))) | (refine step_append_ownv (w := w6) (o := ⟨some 46, _, _, _, _, _⟩) rfl (.tmp 42) (.tmp 45) 23 (by rfl) _ 30 i0 _ 4 48 Tryd.underlying23 hi0 hz0 hz1 hz2 rfl (by decide) v1 (0 + (l.length - n)) ([] ++ flat (l.drop n)) (by simp [Act.eval]) (own_below hown1 hb6) ⟨G, 0, none⟩ n cap (flat (l.take n)) (by simp [Act.eval]) (flat_take_len p1) (cells_take (Has.below (show Has (World.drew wr) G 30 cur from hHas.out) hbu) HTK.out p1) (flat_ones _) q4 q5 (Nat.le_trans hgrow1.size hb6.size) ?_; intro v2 wb hown2 hgrow2 _; obtain ⟨N, A', c', rfl, hN, hlc', hcm', hRV⟩ := rgs_named2 hown2 q6.out; have hbb : Below (World.drew wr).heap.size (World.drew wr) wb := Below.grown hbu hgrow2 (Below.size hbu) (fun i hi => Nat.le_trans hs1 (own_base hown1 hi))) | (go_simp; go_at_call 19; (with_reducible refine (union_key l _ cap _ (rgs_on hR0 (by first | with_reducible exact Below.refl _ _ | with_reducible exact below_da _ _ | with_reducible exact (Below.refl _ _).alloc (Nat.le_refl _) _ | with_reducible exact hba | with_reducible exact hbb)) h1000 hlcap hcapm').mono ?_); rintro e w6 ⟨u, hu, v6, rfl, ho6, hb6⟩; have hbu : Below (World.drew wr).heap.size (World.drew wr) w6 := below_step2 (by first | with_reducible exact Below.refl _ _ | with_reducible exact below_da _ _ | with_reducible exact (Below.refl _ _).alloc (Nat.le_refl _) _ | with_reducible exact hba | with_reducible exact hbb) hb6) | (go_simp; go_at_call 19; (with_reducible refine (union_key9 (l.drop n ++ l.take n) N A' c' _ hN.out (by first | with_reducible exact hRV | with_reducible exact rgs_on hRV hb6) h1001 hlc' hcm').mono ?_); rintro e w9 ⟨u9, hu9, v9, rfl, ho9, hb9⟩))
        all_goals
          have hu10 : u9 = u := uni_unique hu9 hu (fun p => (turn_cov l n p).symm)
          subst hu10
          obtain ⟨A1, c1, rfl, e1, e2, e3⟩ := own_rgs5 ho6
          have hlt6 := ho6.lt
          have hgw := hA.2.lt
          have e8 : ∀ a, A1 = some a → g < a.block := fun a e => by subst e; have h7 := (hlt6 a.block rfl).1; have h8 : wr.heap.size ≤ a.block := Nat.le_trans (by simp) h7; omega
          clear hlt6
          obtain ⟨A2, c2, rfl, e4, e5, e6⟩ := own_rgs5 ho9
          have hb6b : Below w6.heap.size w6 wb := by first | exact Below.grown (Below.trans ((Below.refl _ w6).alloc (Nat.le_refl _) (.cells #[] 30)) ((blw_grown hgrow1).mono (by simp))) hgrow2 (by have := hgrow1.size; simp at this; omega) (fun i hi => by have := own_base hown1 hi; simp at this; omega) | exact Below.grown (blw_grown hgrow1) hgrow2 hgrow1.size (fun i hi => own_base hown1 hi)
          have hb69 : Below w6.heap.size w6 w9 := hb6b.trans (hb9.mono hb6b.size)
          have hbe : Below (World.drew wr).heap.size (World.drew wr) w9 := hbu.trans (hb69.mono hbu.size)
          have hAe := hA.drew.below hbe
          have hHe : Hid (Has w9 G 30 cur) := Lib.hid (Has.below (show Has (World.drew wr) G 30 cur from hHas.out) hbe)
          have e7 := rgs_on e3 hb69
          have hUe := Lib.hid hu
          clear hgrow1 hgrow2 hown1 hown2 hb6 hb9 hbu hba hbb hRV ho6 ho9 hb6b hb69 hbe e3 hu hu9
          go_wp2_with fail
          go_meet
          exact ⟨u9, A1, c1, A2, c2, hUe, rfl, rfl, e1, e2, e4, e5, hAe, hHe, e7, e6, e8⟩
      case rest =>
        obtain ⟨U, A1, c1, A2, c2, HU, rfl, rfl, hc1, hm1, hc2, hm2, hA2, hHas2, hR1, hR2, hAg⟩ := hcut
        clear hA hHas
        have hA := hA2
        have hHas := hHas2
        clear hA2 hHas2
        have hUl : U.length ≤ 6 := by have := HU.out.2.2; omega
        have hU1 : U.length ≤ 1000 := by omega
        clear c3 c4 c0 c1' hn
        go_wp2_with (first | (go_at_call 18; refine (same_ref U A1 _ c1 _ _ hR1 hR2 hU1).mono ?_; rintro e w8 ⟨rfl, hb8⟩; replace hA := hA.below hb8; replace hR1 := rgs_on hR1 hb8; replace hR2 := rgs_on hR2 hb8; replace hHas := Lib.hid (Has.below hHas.out hb8); clear hb8) | (go_at_call 19; refine (union_key U A1 c1 _ hR1 hU1 hc1 hm1).mono ?_; rintro e w8 ⟨u8, hu8, v8, rfl, ho8, hb8⟩; have hU8 := (uni_self HU.out.1 hu8).symm; subst hU8; obtain ⟨A8, c8, rfl, e1, e2, e3⟩ := own_rgs5 ho8; replace hA := hA.below hb8; replace hR1 := rgs_on hR1 hb8; (clear hR2); have hR2 := e3; replace hHas := Lib.hid (Has.below hHas.out hb8); clear hb8 ho8 hu8 e1 e2))
        go_loopw [11] (fun i wz => ∃ k2 : Nat, k2 ≤ 6 ∧ i = .int .i64 k2 ∧ At w [] g wz ∧ Rgs wz wz.heap.size A1 U ∧ Hid (Has wz G 30 cur)) (fun i _ => 6 - (intOf i).toNat)
        case atStart => exact ⟨0, by omega, rfl, hA, hR1, hHas⟩
        case round =>
          clear hA hR1 hHas hR2
          obtain ⟨k2, hk2', rfl, hA, hR1, hHas⟩ := hrel
          by_cases hlt2 : k2 < 6
          · go_wp2_with fail
            refine (key_any g _ hA.2).mono ?_
            rintro e w6 ⟨x, hx, rfl, hst⟩
            have hR1b : Rgs w6 w6.heap.size A1 U := rgs_stepA hR1 hst hAg
            have hHb : Hid (Has w6 G 30 cur) := Lib.hid (hst.blk hHas.out (by omega))
            replace hA := hA.step hst hg1 (fun _ h => by cases h)
            clear hR1 hHas hst
            have HQ := Lib.hid (uni_cnt HU.out x)
            go_wp2_with fail
            go_loopw [13, 15] (fun nn i wz => ∃ j : Nat, j ≤ U.length ∧ i = .int .i64 j ∧ nn = .int .i64 (cnt (U.take j) x : Int) ∧ At w [] g wz ∧ Rgs wz wz.heap.size A1 U ∧ Hid (Has wz G 30 cur)) (fun _ i _ => U.length - (intOf i).toNat)
            case atStart => exact ⟨0, Nat.zero_le _, rfl, rfl, hA, hR1b, hHb⟩
            case round =>
              clear hA hR1b hHb
              obtain ⟨j, hj, rfl, rfl, hA, hR1, hHas⟩ := hrel
              have hcl : cnt (U.take j) x ≤ 6 := Nat.le_trans (ct_le (U.take j) x) (by rw [List.length_take]; omega)
              by_cases hjl : j < U.length
              · obtain ⟨b1, o1, hA1, hb1, hcell⟩ := hR1 (by intro e; rw [e] at hjl; simp at hjl)
                obtain ⟨x1, x2, x3, x4⟩ := hcell j hjl
                have HY := Lib.hid (fun h => ct_yes (x := x) hjl h)
                have HN := Lib.hid (fun h => ct_no (x := x) hjl h)
                clear hcell
                generalize U[j] = el at *
                subst hA1
                cases hh : el.has x
                · have HE := Lib.hid hh
                  clear hh
                  go_wp2_with (go_at_call 30; refine (has_key _ _ _).mono ?_; rintro e w7 ⟨he7, hb7⟩; rw [HE.out] at he7; subst he7; replace hA := hA.below hb7; replace hR1 := rgs_on hR1 hb7; replace hHas := Lib.hid (Has.below hHas.out hb7); clear hb7 x1 x2 x3 x4)
                  go_roundw
                  case rel => exact ⟨j + 1, hjl, by go_num, by rw [HN.out HE.out], hA, hR1, hHas⟩
                  case measure => simp [intOf]; omega
                · have HE := Lib.hid hh
                  clear hh
                  go_wp2_with (go_at_call 30; refine (has_key _ _ _).mono ?_; rintro e w7 ⟨he7, hb7⟩; rw [HE.out] at he7; subst he7; replace hA := hA.below hb7; replace hR1 := rgs_on hR1 hb7; replace hHas := Lib.hid (Has.below hHas.out hb7); clear hb7 x1 x2 x3 x4)
                  go_roundw
                  case rel => exact ⟨j + 1, hjl, by go_num, by rw [HY.out HE.out]; go_num, hA, hR1, hHas⟩
                  case measure => simp [intOf]; omega
              · have hjU : j = U.length := by omega
                subst hjU
                rw [List.take_length] at *
                go_wp2_with fail
                go_loopw [14, 16] (fun oo i wz => ∃ j : Nat, j ≤ l.length ∧ i = .int .i64 j ∧ oo = .bool (decide (0 < cnt (l.take j) x)) ∧ At w [] g wz ∧ Rgs wz wz.heap.size A1 U ∧ Hid (Has wz G 30 cur)) (fun _ i _ => l.length - (intOf i).toNat)
                case atStart => exact ⟨0, Nat.zero_le _, rfl, rfl, hA, hR1, hHas⟩
                case round =>
                  clear hA hR1 hHas
                  obtain ⟨j, hj, rfl, rfl, hA, hR1, hHas⟩ := hrel
                  by_cases hjl : j < l.length
                  · obtain ⟨x1, x2, x3, x4⟩ := row_cells hHas.out (row_of_take HTK.out) hjl
                    have HY := Lib.hid (fun h => ct_yes (x := x) hjl h)
                    have HN := Lib.hid (fun h => ct_no (x := x) hjl h)
                    generalize l[j] = el at *
                    obtain ⟨cc, hcc⟩ : ∃ cc, cnt (l.take j) x = cc := ⟨_, rfl⟩
                    rw [hcc]
                    have HCC := Lib.hid hcc
                    clear hcc
                    rcases Nat.eq_zero_or_pos cc with hc0 | hc0
                    · subst hc0
                      rw [show decide (0 < 0) = false from rfl]
                      cases hh : el.has x
                      · have HE := Lib.hid hh
                        clear hh
                        go_wp2_with (go_at_call 30; refine (has_key _ _ _).mono ?_; rintro e w7 ⟨he7, hb7⟩; rw [HE.out] at he7; subst he7; replace hA := hA.below hb7; replace hR1 := rgs_on hR1 hb7; replace hHas := Lib.hid (Has.below hHas.out hb7); clear hb7 x1 x2 x3 x4)
                        go_roundw
                        case rel => exact ⟨j + 1, hjl, by go_num, by rw [HN.out HE.out, HCC.out]; rfl, hA, hR1, hHas⟩
                        case measure => simp [intOf]; omega
                      · have HE := Lib.hid hh
                        clear hh
                        go_wp2_with (go_at_call 30; refine (has_key _ _ _).mono ?_; rintro e w7 ⟨he7, hb7⟩; rw [HE.out] at he7; subst he7; replace hA := hA.below hb7; replace hR1 := rgs_on hR1 hb7; replace hHas := Lib.hid (Has.below hHas.out hb7); clear hb7 x1 x2 x3 x4)
                        go_roundw
                        case rel => exact ⟨j + 1, hjl, by go_num, by rw [HY.out HE.out, HCC.out]; rfl, hA, hR1, hHas⟩
                        case measure => simp [intOf]; omega
                    · rw [show decide (0 < cc) = true from by simpa using hc0]
                      go_wp2_with fail
                      go_roundw
                      case rel =>
                        refine ⟨j + 1, hjl, by go_num, ?_, hA, hR1, hHas⟩
                        have h7 : 0 < cnt (l.take (j + 1)) x := by
                          have h8 := HCC.out
                          cases hh : el.has x
                          · rw [HN.out hh]; omega
                          · rw [HY.out hh]; omega
                        simp [h7]
                      case measure => simp [intOf]; omega
                  · have hjE : j = l.length := by omega
                    subst hjE
                    rw [List.take_length]
                    obtain ⟨q1, q2⟩ := HQ.out
                    rcases Nat.eq_zero_or_pos (cnt U x) with hz | hz
                    · have hz2 : decide (0 < cnt l x) = false := by simp; omega
                      rw [hz2, hz]
                      clear q1 q2 hz hz2 hcl
                      go_wp2_with fail
                      go_roundw
                      case rel => exact ⟨k2 + 1, hlt2, by go_num, hA, hR1, hHas⟩
                      case measure => simp [intOf]; omega
                    · have hz1 : cnt U x = 1 := by omega
                      have hz2 : decide (0 < cnt l x) = true := by simp; omega
                      rw [hz2, hz1]
                      clear q1 q2 hz hz1 hz2 hcl
                      go_wp2_with fail
                      go_roundw
                      case rel => exact ⟨k2 + 1, hlt2, by go_num, hA, hR1, hHas⟩
                      case measure => simp [intOf]; omega
          · go_wp2_with fail
            go_loopw [17] (fun i wz => ∃ j : Nat, i = .int .i64 ((j + 1 : Nat) : Int) ∧ j ≤ U.length ∧ At w [] g wz ∧ Rgs wz wz.heap.size A1 U) (fun i _ => U.length - (intOf i).toNat)
            case atStart => exact ⟨0, rfl, Nat.zero_le _, hA, hR1⟩
            case round =>
              clear hA hR1 hHas
              obtain ⟨j, rfl, hj, hA, hR1⟩ := hrel
              by_cases hjl : j + 1 < U.length
              · obtain ⟨b1, o1, hA1, hb1, hcell⟩ := hR1 (by intro e; rw [e] at hjl; simp at hjl)
                subst hA1
                obtain ⟨_, _, x3, x4⟩ := hcell j (by omega)
                obtain ⟨y1, y2, _, _⟩ := hcell (j + 1) hjl
                have hlt9 : (U[j]'(by omega)).hi.cmp U[j + 1].lo < 0 := List.pairwise_iff_getElem.1 HU.out.1.2 j (j + 1) (by omega) hjl (by omega)
                clear hcell
                generalize U[j] = el at *
                generalize U[j + 1] = em at *
                have hneg := cmp_neg hlt9
                have HLT9 := Lib.hid hneg
                clear hneg hlt9
                rw [show ((j + 1 : Nat) : Int) = (j : Int) + 1 from by omega]
                go_wp2_with fail
                have r1 := fun (wz : World) (h : Below wr.heap.size wr wz) => (h.cell (p := ⟨b1, o1 + j * 4 + 2, none⟩) hb1).trans x3
                have r2 := fun (wz : World) (h : Below wr.heap.size wr wz) => (h.cell (p := ⟨b1, o1 + j * 4 + 3, none⟩) hb1).trans x4
                have r3 := fun (wz : World) (h : Below wr.heap.size wr wz) => (h.cell (p := ⟨b1, o1 + (j + 1) * 4, none⟩) hb1).trans y1
                have r4 := fun (wz : World) (h : Below wr.heap.size wr wz) => (h.cell (p := ⟨b1, o1 + (j + 1) * 4 + 1, none⟩) hb1).trans y2
                clear x3 x4 y1 y2
                have i0' : (0 : Int) ≤ (j : Int) := by omega
                have i1 : (j : Int) < (U.length : Int) := by omega
                have i2 : (0 : Int) ≤ (j : Int) + 1 := by omega
                have i3 : (j : Int) + 1 < (U.length : Int) := by omega
                have e3 : ((j : Int) + 1).toNat = j + 1 := by omega
                have e1 : IntKind.i64.wrap ((j : Int) + 1 - 1) = (j : Int) := by rw [Int.add_sub_cancel]; exact IntWalk.i64_in _ (by omega)
                have e2 : IntKind.i64.wrap ((j : Int) + 1 + -1) = (j : Int) := by rw [show (j : Int) + 1 + -1 = j by omega]; exact IntWalk.i64_in _ (by omega)
                have e5 : IntKind.i64.wrap (j : Int) = (j : Int) := IntWalk.i64_in _ (by omega)
                go_region_held3 (fun wz => Below wr.heap.size wr wz) (first | with_reducible exact hS1 | with_reducible exact (Below.refl _ _).drew | with_reducible assumption) ((go_at_call 31; refine (cmp_key _ _ _).mono ?_; rintro e w7 ⟨he7, hb7⟩; rw [HLT9.out] at he7; subst he7; have hS1 := Below.trans (show Below wr.heap.size wr _ by assumption) (hb7.mono (Below.size (show Below wr.heap.size wr _ by assumption)))))
                clear e1 e2 e3 e5 i0' i1 i2 i3 r1 r2 r3 r4
                replace hA := hA.below hS1
                replace hR1 := rgs_on hR1 hS1
                go_wp2_with fail
                go_roundw
                case rel => exact ⟨j + 1, by go_num, by omega, hA, hR1⟩
                case measure => simp [intOf]; omega
              · go_wp2_with (go_at_call 23; (with_reducible refine (sane_any _).mono ?_); rintro e w8 ⟨rfl, hb8⟩; replace hA := hA.below hb8; clear hb8)
                go_ret
                exact ⟨rfl, hA.1.1⟩
end Go.Proofs.YtofandkijmbplaaDoor
