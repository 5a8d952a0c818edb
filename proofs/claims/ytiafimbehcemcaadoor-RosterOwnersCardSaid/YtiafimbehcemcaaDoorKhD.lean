/-
  The library's merge in place at a row of nodes: what it leaves. Condition: the row is as the sort holds it.
-/
import Derived.Test.YtiafimbehcemcaaDoorKhC
namespace Go.Proofs.YtiafimbehcemcaaDoor
open Go.RowKit

section
variable {F : Nat → Nd}
theorem one_sd {a i b : Nat} {G : Nat → Nat} (h2 : Sd F (a + 1) b G) (hi : a + 1 ≤ i) (hib : i ≤ b) (k1 : ∀ t, a + 1 ≤ t → t < i → Lx F (G t) (G a)) (k2 : ∀ t, i ≤ t → t < b → Lx F (G a) (G t)) : Sd F a b (rot a (a + 1) i G) := by
  have h := cut4 (F := F) (a := a) (s := a) (m := a + 1) (e := i) (b := b) (G := G) (fun p q p1 p2 p3 => by omega) h2 (Nat.le_refl _) (Nat.le_succ _) hi hib (fun _ h => k1 _ (by omega) (by omega)) (fun h => by omega)
  refine cut4_join h h.two ?_ (fun k p1 p2 => ⟨k, p1, p2, rfl⟩) (fun k p1 p2 => ⟨k, p1, p2, rfl⟩)
  intro p q p1 p2 p3
  by_cases hp : p < i
  · by_cases hq : q < i
    · exact h.three p q p1 p2 hq
    · rw [rot_hi G p1 hp, rot_out G hi (by omega) (Nat.le_succ _), show p - (i - (a + 1)) = a by omega]
      exact k2 q (by omega) p3
  · exact h.four p q (by omega) p2 p3
theorem two_sd {a i m : Nat} {G : Nat → Nat} (h1 : Sd F a m G) (hi : a ≤ i) (him : i ≤ m) (k1 : ∀ t, a ≤ t → t < i → Lx F (G t) (G m)) (k2 : ∀ t, i ≤ t → t < m → Lx F (G m) (G t)) : Sd F a (m + 1) (rot i m (m + 1) G) := by
  have h := cut4 (F := F) (a := a) (s := i) (m := m) (e := m + 1) (b := m + 1) (G := G) h1 (fun p q p1 p2 p3 => by omega) hi him (Nat.le_succ _) (Nat.le_refl _) (fun h _ => k2 _ (by omega) (by omega)) (fun _ h => by omega)
  refine cut4_join h ?_ ?_ (fun k p1 p2 => ⟨k, p1, p2, rfl⟩) (fun k p1 p2 => ⟨k, p1, p2, rfl⟩)
  · intro p q p1 p2 p3
    by_cases hq : q < i
    · exact h.one p q p1 p2 hq
    · rw [rot_out G (Nat.le_succ _) (by omega) him, rot_lo G (by omega) (by omega), show q + (m - i) = m by omega]
      exact k1 p p1 (by omega)
  · intro p q p1 p2 p3
    exact h.three p q p1 p2 p3
end
/-- What a merge leaves. -/
def MgP (F : Nat → Nd) (n : Nat) (w0 : World) (g : Nat) (pad : List Value) (a b : Nat) (G : Nat → Nat) (w : World) (e : Ending) (w' : World) : Prop := e = .returned (.tuple #[]) ∧ w.grownBy w' (some g) ∧ ∃ G', SG F n w0 g pad w' G' ∧ Wi a b G G' ∧ Sd F a b G'

set_option maxRecDepth 100000 in
set_option maxHeartbeats 3200000 in
theorem sym_one (F : Nat → Nd) (B g n : Nat) (pad : List Value) (w0 : World) (sf : Nat) (sb : Array Value) (hSw : ∀ w1, SwapN sf sb w1 g pad n) (hL : LessN B w0 g pad n) (hn : n ≤ 1000000) (a b : Nat) (hab : a + 1 < b) (hb : b ≤ n) (G : Nat → Nat) (w : World) (hs : SG F n w0 g pad w G) (h2 : Sd F (a + 1) b G) (ht : ∀ q, a + 1 ≤ q → q < b → G a < G q) :
    Calls Tryd.prog 172 #[.agg #[.func (.func 107) #[] #[.pointer (some ⟨B, 0, none⟩)], .func (.func sf) #[] sb], .int .i64 (a : Int), .int .i64 ((a + 1 : Nat) : Int), .int .i64 (b : Int)] w (MgP F n w0 g pad a b G w) := by
  obtain ⟨w1, hw1⟩ : ∃ w1, w1 = w.alloc (.cells #[.func (.func 107) #[] #[.pointer (some ⟨B, 0, none⟩)], .func (.func sf) #[] sb] 186) := ⟨_, rfl⟩
  have hbw : Below w.heap.size w w1 := by rw [hw1]; exact (Below.refl _ _).alloc (Nat.le_refl _) _
  have hX : Has w1 w.heap.size 186 #[.func (.func 107) #[] #[.pointer (some ⟨B, 0, none⟩)], .func (.func sf) #[] sb] := by rw [hw1]; exact Has.new _ _ _
  have hXg : w.heap.size ≠ g := by have := hs.lt; omega
  have HK := Lib.hid (grown_of (g := g) hbw)
  have hs1 := hs.below hbw
  have HSW := Lib.hid (fun (W : World) (G' : Nat → Nat) (h : SG F n w0 g pad W G') (i j : Nat) (hi : i < n) (hj : j < n) (hij : i ≠ j) => h.swap hSw hi hj hij)
  have HLE := Lib.hid (fun (W : World) (G' : Nat → Nat) (h : SG F n w0 g pad W G') (i j : Nat) (hi : i < n) (hj : j < n) => h.less hL hi hj)
  have H2 := Lib.hid h2
  have HT := Lib.hid ht
  have e1 : IntKind.i64.wrap (((a + 1 : Nat) : Int) - (a : Int)) = 1 := by rw [show ((a + 1 : Nat) : Int) - (a : Int) = 1 by omega]; decide
  obtain ⟨m, hm⟩ : ∃ m, m = a + 1 := ⟨_, rfl⟩
  rw [← hm] at e1 ⊢
  have HM := Lib.hid hm
  have hm0 : ((m : Int) - (a : Int) == 1) = true := by simp; omega
  clear hs hSw hL hbw h2 ht
  go_enter Tryd.func172, Tryd.ntmps172
  clear hm
  go_wp2_with fail
  rw [← hw1]
  clear hw1 e1 hm0
  go_loopw [8, 9] (fun vi vj wr => ∃ i j : Nat, vi = .int .i64 (i : Int) ∧ vj = .int .i64 (j : Int) ∧ a + 1 ≤ i ∧ i ≤ j ∧ j ≤ b ∧ w1.grownBy wr (some g) ∧ SG F n w0 g pad wr G ∧ Hid (∀ t, a + 1 ≤ t → t < i → Lx F (G t) (G a)) ∧ Hid (∀ t, j ≤ t → t < b → Lx F (G a) (G t))) (fun vi vj _ => (intOf vj).toNat - (intOf vi).toNat)
  case atStart => exact ⟨m, b, rfl, rfl, by rw [HM.out]; exact Nat.le_refl _, by rw [HM.out]; omega, Nat.le_refl _, grownBy_refl _ _, hs1, Lib.hid (fun t h1 h2 => by rw [HM.out] at h2; omega), Lib.hid (fun t h1 h2 => by omega)⟩
  case round =>
    clear hs1
    obtain ⟨i, j, rfl, rfl, hai, hij, hjb, hgr, hs, HA, HB⟩ := hrel
    by_cases hlt : i < j
    · have hltz : (i : Int) < (j : Int) := by omega
      obtain ⟨h, hh⟩ : ∃ h, h = (i + j) / 2 := ⟨_, rfl⟩
      have h1 : i ≤ h := by omega
      have h2 : h < j := by omega
      have w1' : IntKind.i64.wrap ((i : Int) + (j : Int)) = (i : Int) + (j : Int) := IntWalk.i64_in _ (by omega)
      have hd : ((i : Int) + (j : Int)) / 2 = (h : Int) := by omega
      have HC := HLE.out wr G hs h a (by omega) (by omega)
      have HTA := HT.out h (by omega) (by omega)
      have hX2 := has_aside hgr hX hXg
      have x0 := hX2.cell 0
      clear hh hX2
      cases hp : nlt (F (G h)) (F (G a))
      · have HZ : Hid (∀ t, h ≤ t → t < b → Lx F (G a) (G t)) := Lib.hid fun t t1 t2 => sd_ge H2.out (by omega) t1 t2 ((lx_dn HTA).2 hp)
        rw [hp] at HC
        have HC := Lib.hid HC
        clear hp
        go_wp2_with fail
        refine (HC.out).mono ?_
        rintro e w2 ⟨rfl, hb2⟩
        go_wp2_with fail
        exact ⟨⟨i, h, rfl, rfl, hai, h1, by omega, grownBy_trans hgr (grown_of hb2), hs.below hb2, HA, HZ⟩, by simp [intOf]; omega⟩
      · have HZ : Hid (∀ t, a + 1 ≤ t → t < h + 1 → Lx F (G t) (G a)) := Lib.hid fun t t1 t2 => sd_le H2.out t1 (show t ≤ h by omega) (by omega) ((lx_up HTA).2 hp)
        rw [hp] at HC
        have HC := Lib.hid HC
        clear hp
        go_wp2_with fail
        refine (HC.out).mono ?_
        rintro e w2 ⟨rfl, hb2⟩
        go_wp2_with fail
        exact ⟨⟨h + 1, j, by go_num, rfl, by omega, by omega, hjb, grownBy_trans hgr (grown_of hb2), hs.below hb2, HZ, HB⟩, by simp [intOf]; omega⟩
    · have e : i = j := by omega
      subst e
      have hltz : ¬ (i : Int) < (i : Int) := by omega
      have w1' : IntKind.i64.wrap ((i : Int) - 1) = (i : Int) - 1 := IntWalk.i64_in _ (by omega)
      have HS := Lib.hid (one_sd H2.out hai hjb HA.out HB.out)
      clear HA HB
      go_wp2_with fail
      go_loopw [11] (fun vk wz => ∃ k : Nat, vk = .int .i64 (k : Int) ∧ a ≤ k ∧ k + 1 ≤ i ∧ w1.grownBy wz (some g) ∧ SG F n w0 g pad wz (rot a (a + 1) (k + 1) G)) (fun vk _ => i - (intOf vk).toNat)
      case atStart => exact ⟨a, rfl, Nat.le_refl _, hai, hgr, by rw [rot_right (Nat.le_succ a)]; exact hs⟩
      case round =>
        clear hs hgr
        obtain ⟨k, rfl, hak, hki, hgr, hs⟩ := hrel
        by_cases hk2 : k + 1 < i
        · have hX2 := has_aside hgr hX hXg
          have x1 := hX2.cell 1
          obtain ⟨w2, hr2, hs2, hg2⟩ := HSW.out _ _ hs k (k + 1) (by omega) (by omega) (by omega)
          rw [rot_up hak] at hs2
          rw [show ((k + 1 : Nat) : Int) = (k : Int) + 1 by omega] at hr2
          have hz : (k : Int) < (i : Int) - 1 := by omega
          clear hX2 hs
          go_wp2_with fail
          exact ⟨⟨k + 1, by go_num, by omega, by omega, grownBy_trans hgr hg2, hs2⟩, by simp [intOf]; omega⟩
        · have e : k + 1 = i := by omega
          rw [e] at hs
          have hz : ¬ (k : Int) < (i : Int) - 1 := by omega
          have HR := Lib.hid hs
          clear hs e
          go_wp2_with fail
          go_end0
          exact ⟨rfl, grownBy_trans HK.out hgr, _, HR.out, (rot_wi (Nat.le_succ a) hai G).mono (Nat.le_refl _) hjb, HS.out⟩

set_option maxRecDepth 100000 in
set_option maxHeartbeats 3200000 in
theorem sym_two (F : Nat → Nd) (B g n : Nat) (pad : List Value) (w0 : World) (sf : Nat) (sb : Array Value) (hSw : ∀ w1, SwapN sf sb w1 g pad n) (hL : LessN B w0 g pad n) (hn : n ≤ 1000000) (a m : Nat) (ham : a + 1 < m) (hb : m + 1 ≤ n) (G : Nat → Nat) (w : World) (hs : SG F n w0 g pad w G) (h2 : Sd F a m G) (ht : ∀ p, a ≤ p → p < m → G p < G m) :
    Calls Tryd.prog 172 #[.agg #[.func (.func 107) #[] #[.pointer (some ⟨B, 0, none⟩)], .func (.func sf) #[] sb], .int .i64 (a : Int), .int .i64 (m : Int), .int .i64 ((m + 1 : Nat) : Int)] w (MgP F n w0 g pad a (m + 1) G w) := by
  obtain ⟨w1, hw1⟩ : ∃ w1, w1 = w.alloc (.cells #[.func (.func 107) #[] #[.pointer (some ⟨B, 0, none⟩)], .func (.func sf) #[] sb] 186) := ⟨_, rfl⟩
  have hbw : Below w.heap.size w w1 := by rw [hw1]; exact (Below.refl _ _).alloc (Nat.le_refl _) _
  have hX : Has w1 w.heap.size 186 #[.func (.func 107) #[] #[.pointer (some ⟨B, 0, none⟩)], .func (.func sf) #[] sb] := by rw [hw1]; exact Has.new _ _ _
  have hXg : w.heap.size ≠ g := by have := hs.lt; omega
  have HK := Lib.hid (grown_of (g := g) hbw)
  have hs1 := hs.below hbw
  have HSW := Lib.hid (fun (W : World) (G' : Nat → Nat) (h : SG F n w0 g pad W G') (i j : Nat) (hi : i < n) (hj : j < n) (hij : i ≠ j) => h.swap hSw hi hj hij)
  have HLE := Lib.hid (fun (W : World) (G' : Nat → Nat) (h : SG F n w0 g pad W G') (i j : Nat) (hi : i < n) (hj : j < n) => h.less hL hi hj)
  have H2 := Lib.hid h2
  have HT := Lib.hid ht
  have e1 : IntKind.i64.wrap ((m : Int) - (a : Int)) = (m : Int) - (a : Int) := IntWalk.i64_in _ (by omega)
  have hm0 : ((m : Int) - (a : Int) == 1) = false := by simp; omega
  have e2 : IntKind.i64.wrap (((m + 1 : Nat) : Int) - (m : Int)) = 1 := by rw [show ((m + 1 : Nat) : Int) - (m : Int) = 1 by omega]; decide
  obtain ⟨b, hb2⟩ : ∃ b, b = m + 1 := ⟨_, rfl⟩
  rw [← hb2] at e2 ⊢
  have HM := Lib.hid hb2
  have hm1 : ((b : Int) - (m : Int) == 1) = true := by simp; omega
  clear hs hSw hL hbw h2 ht
  go_enter Tryd.func172, Tryd.ntmps172
  clear hb2
  go_wp2_with fail
  rw [← hw1]
  clear hw1 e1 hm0 e2 hm1
  go_loopw [12, 13] (fun vi vj wr => ∃ i j : Nat, vi = .int .i64 (i : Int) ∧ vj = .int .i64 (j : Int) ∧ a ≤ i ∧ i ≤ j ∧ j ≤ m ∧ w1.grownBy wr (some g) ∧ SG F n w0 g pad wr G ∧ Hid (∀ t, a ≤ t → t < i → Lx F (G t) (G m)) ∧ Hid (∀ t, j ≤ t → t < m → Lx F (G m) (G t))) (fun vi vj _ => (intOf vj).toNat - (intOf vi).toNat)
  case atStart => exact ⟨a, m, rfl, rfl, Nat.le_refl _, by omega, Nat.le_refl _, grownBy_refl _ _, hs1, Lib.hid (fun t h1 h2 => by omega), Lib.hid (fun t h1 h2 => by omega)⟩
  case round =>
    clear hs1
    obtain ⟨i, j, rfl, rfl, hai, hij, hjb, hgr, hs, HA, HB⟩ := hrel
    by_cases hlt : i < j
    · have hltz : (i : Int) < (j : Int) := by omega
      obtain ⟨h, hh⟩ : ∃ h, h = (i + j) / 2 := ⟨_, rfl⟩
      have h1 : i ≤ h := by omega
      have h2 : h < j := by omega
      have w1' : IntKind.i64.wrap ((i : Int) + (j : Int)) = (i : Int) + (j : Int) := IntWalk.i64_in _ (by omega)
      have hd : ((i : Int) + (j : Int)) / 2 = (h : Int) := by omega
      have HC := HLE.out wr G hs m h (by omega) (by omega)
      have HTA := HT.out h (by omega) (by omega)
      have hX2 := has_aside hgr hX hXg
      have x0 := hX2.cell 0
      clear hh hX2
      cases hp : nlt (F (G m)) (F (G h))
      · have HZ : Hid (∀ t, a ≤ t → t < h + 1 → Lx F (G t) (G m)) := Lib.hid fun t t1 t2 => sd_le H2.out t1 (show t ≤ h by omega) (by omega) ((lx_dn HTA).2 hp)
        rw [hp] at HC
        have HC := Lib.hid HC
        clear hp
        go_wp2_with fail
        refine (HC.out).mono ?_
        rintro e w2 ⟨rfl, hb2⟩
        go_wp2_with fail
        exact ⟨⟨h + 1, j, by go_num, rfl, by omega, by omega, hjb, grownBy_trans hgr (grown_of hb2), hs.below hb2, HZ, HB⟩, by simp [intOf]; omega⟩
      · have HZ : Hid (∀ t, h ≤ t → t < m → Lx F (G m) (G t)) := Lib.hid fun t t1 t2 => sd_ge H2.out (by omega) t1 t2 ((lx_up HTA).2 hp)
        rw [hp] at HC
        have HC := Lib.hid HC
        clear hp
        go_wp2_with fail
        refine (HC.out).mono ?_
        rintro e w2 ⟨rfl, hb2⟩
        go_wp2_with fail
        exact ⟨⟨i, h, rfl, rfl, hai, h1, by omega, grownBy_trans hgr (grown_of hb2), hs.below hb2, HA, HZ⟩, by simp [intOf]; omega⟩
    · have e : i = j := by omega
      subst e
      have hltz : ¬ (i : Int) < (i : Int) := by omega
      have HS := Lib.hid (two_sd H2.out hai hjb HA.out HB.out)
      clear HA HB
      go_wp2_with fail
      go_loopw [15] (fun vk wz => ∃ k : Nat, vk = .int .i64 (k : Int) ∧ i ≤ k ∧ k ≤ m ∧ w1.grownBy wz (some g) ∧ SG F n w0 g pad wz (rot k m (m + 1) G)) (fun vk _ => (intOf vk).toNat)
      case atStart => exact ⟨m, rfl, hjb, Nat.le_refl _, hgr, by rw [rot_left]; exact hs⟩
      case round =>
        clear hs hgr
        obtain ⟨k, rfl, hak, hki, hgr, hs⟩ := hrel
        by_cases hk2 : i < k
        · have hX2 := has_aside hgr hX hXg
          have x1 := hX2.cell 1
          obtain ⟨q, rfl⟩ : ∃ q, k = q + 1 := ⟨k - 1, by omega⟩
          obtain ⟨w2, hr2, hs2, hg2⟩ := HSW.out _ _ hs (q + 1) q (by omega) (by omega) (by omega)
          rw [rot_down (by omega)] at hs2
          have hz : (i : Int) < ((q + 1 : Nat) : Int) := by omega
          have hwq : IntKind.i64.wrap (((q + 1 : Nat) : Int) - 1) = (q : Int) := by rw [show ((q + 1 : Nat) : Int) - 1 = (q : Int) by omega]; exact IntWalk.i64_in _ (by omega)
          rw [show ((q + 1 : Nat) : Int) = (q : Int) + 1 by omega] at hr2
          clear hX2 hs
          go_wp2_with fail
          exact ⟨⟨q, by go_num, by omega, by omega, grownBy_trans hgr hg2, hs2⟩, by simp [intOf]⟩
        · have e : k = i := by omega
          subst e
          have hz : ¬ (k : Int) < (k : Int) := by omega
          have HR := Lib.hid hs
          clear hs
          go_wp2_with fail
          go_end0
          rw [HM.out]
          exact ⟨rfl, grownBy_trans HK.out hgr, _, HR.out, (rot_wi hki (Nat.le_succ m) G).mono hai (Nat.le_refl _), HS.out⟩
end Go.Proofs.YtiafimbehcemcaaDoor
