/-
  The library's stable sort at a row of nodes of any number up to a million: what it leaves. Condition: the row is as the sort holds it.
-/
import Derived.Test.YtiafimbehcemcaaDoorKhE
namespace Go.Proofs.YtiafimbehcemcaaDoor
open Go.RowKit

section
variable {F : Nat → Nd}
theorem dvd_gap {s a c : Nat} (h1 : s ∣ a) (h2 : s ∣ c) (h : c < a) : c + s ≤ a := by
  obtain ⟨x, rfl⟩ := h1
  obtain ⟨y, rfl⟩ := h2
  have h3 : y < x := Nat.lt_of_mul_lt_mul_left h
  have h4 : s * (y + 1) ≤ s * x := Nat.mul_le_mul_left s h3
  rwa [Nat.mul_succ] at h4
/-- Blocks of s are ascending, all of them, or those ahead of a; numbers of a block are greater than those of the blocks ahead. -/
structure FinB (F : Nat → Nd) (n s : Nat) (G : Nat → Nat) : Prop where
  sd : ∀ c, s ∣ c → Sd F c (min (c + s) n) G
  ts : ∀ c, s ∣ c → Ts n c G
  img : ∀ k, k < n → G k < n
structure Part (F : Nat → Nd) (n s a : Nat) (G : Nat → Nat) : Prop where
  sd : ∀ c, s ∣ c → c < a → Sd F c (c + s) G
  ts : ∀ c, s ∣ c → Ts n c G
  img : ∀ k, k < n → G k < n
theorem wi_img {n a b : Nat} {G H : Nat → Nat} (h : Wi a b G H) (hb : b ≤ n) (hi : ∀ k, k < n → G k < n) : ∀ k, k < n → H k < n := fun k hk => by
  by_cases hx : a ≤ k ∧ k < b
  · obtain ⟨k', a1, a2, e⟩ := h.2 k hx.1 hx.2
    rw [e]; exact hi k' (by omega)
  · rw [h.1 k (by omega)]; exact hi k hk
theorem part_next {n s a : Nat} {G H : Nat → Nat} (h : Part F n s a G) (ha : s ∣ a) (hw : Wi a (a + s) G H) (hs : Sd F a (a + s) H) (hn : a + s ≤ n) : Part F n s (a + s) H where
  sd c h1 h2 := by
    rcases Nat.lt_trichotomy c a with h3 | h3 | h3
    · exact hw.sd (h.sd c h1 h3) (.inl (dvd_gap ha h1 h3))
    · subst h3; exact hs
    · have := dvd_gap h1 ha h3; omega
  ts c h1 := by
    refine hw.ts (h.ts c h1) ?_ hn
    rcases Nat.lt_or_ge a c with h3 | h3
    · exact .inr (dvd_gap h1 ha h3)
    · exact .inl h3
  img := wi_img hw hn h.img
theorem part_fin {n s a : Nat} {G H : Nat → Nat} (h : Part F n s a G) (ha : s ∣ a) (han : a ≤ n) (hna : n < a + s) (hw : Wi a n G H) (hs : Sd F a n H) : FinB F n s H where
  sd c h1 := by
    rcases Nat.lt_trichotomy c a with h3 | h3 | h3
    · have := dvd_gap ha h1 h3
      rw [Nat.min_eq_left (by omega)]
      exact hw.sd (h.sd c h1 h3) (.inl this)
    · subst h3
      rw [Nat.min_eq_right (by omega)]; exact hs
    · have := dvd_gap h1 ha h3
      intro p q p1 p2 p3
      omega
  ts c h1 := by
    rcases Nat.lt_or_ge a c with h3 | h3
    · have := dvd_gap h1 ha h3
      intro p q p1 p2 p3
      omega
    · exact hw.ts (h.ts c h1) (.inl h3) (Nat.le_refl _)
  img := wi_img hw (Nat.le_refl _) h.img
/-- While blocks of s are merged by two: what lies behind a is as it was. -/
def Back (F : Nat → Nd) (n s a : Nat) (G : Nat → Nat) : Prop := ∀ c, s ∣ c → a ≤ c → Sd F c (min (c + s) n) G ∧ Ts n c G
theorem back_start {n s : Nat} {G : Nat → Nat} (h : FinB F n s G) : Part F n (2 * s) 0 G ∧ Back F n s 0 G :=
  ⟨⟨fun c _ h => by omega, fun c hc => h.ts c (Nat.dvd_trans (Nat.dvd_mul_left s 2) hc), h.img⟩, fun c hc _ => ⟨h.sd c hc, h.ts c hc⟩⟩
theorem back_next {n s a : Nat} {G H : Nat → Nat} (h : Back F n s a G) (hw : Wi a (a + 2 * s) G H) (hn : a + 2 * s ≤ n) : Back F n s (a + 2 * s) H := fun c hc h1 => by
  obtain ⟨k1, k2⟩ := h c hc (by omega)
  exact ⟨hw.sd k1 (.inr h1), hw.ts k2 (.inr h1) hn⟩
theorem part_start {n : Nat} : Part F n 20 0 (fun k => k) := ⟨fun c _ h => by omega, fun c _ p q p1 p2 _ => by omega, fun k hk => hk⟩
end

theorem sym_any (F : Nat → Nd) (B g n : Nat) (pad : List Value) (w0 : World) (sf : Nat) (sb : Array Value) (hSw : ∀ w1, SwapN sf sb w1 g pad n) (hL : LessN B w0 g pad n) (hn : n ≤ 1000000) : ∀ (N a m b : Nat), b - a ≤ N → a < m → m < b → b ≤ n → ∀ (G : Nat → Nat) (w : World), SG F n w0 g pad w G → Sd F a m G → Sd F m b G → (∀ p q, a ≤ p → p < m → m ≤ q → q < b → G p < G q) →
    Calls Tryd.prog 172 #[.agg #[.func (.func 107) #[] #[.pointer (some ⟨B, 0, none⟩)], .func (.func sf) #[] sb], .int .i64 (a : Int), .int .i64 (m : Int), .int .i64 (b : Int)] w (MgP F n w0 g pad a b G w)
  | 0, a, m, b, h, h1, h2, _ => by omega
  | N + 1, a, m, b, h, h1, h2, hb => fun G w hs k1 k2 kt => by
    by_cases c1 : m = a + 1
    · subst c1
      exact sym_one F B g n pad w0 sf sb hSw hL hn a b h2 hb G w hs k2 (fun q q1 q2 => kt a q (Nat.le_refl _) (Nat.lt_succ_self _) q1 q2)
    · by_cases c2 : b = m + 1
      · subst c2
        exact sym_two F B g n pad w0 sf sb hSw hL hn a m (by omega) hb G w hs k1 (fun p p1 p2 => kt p m p1 p2 (Nat.le_refl _) (Nat.lt_succ_self _))
      · exact sym_more F B g n pad w0 sf sb hSw hL hn a m b (by omega) (by omega) hb G w hs k1 k2 kt (fun a' m' b' q1 q2 q3 q4 => sym_any F B g n pad w0 sf sb hSw hL hn N a' m' b' (by omega) q2 q3 q4)
theorem ins_any (F : Nat → Nd) (B g n cap : Nat) (pad : List Value) (w0 : World) (sf : Nat) (sb : Array Value) (hSw : ∀ w1, SwapN sf sb w1 g pad n) (hB : w0.cell? ⟨B, 0, none⟩ = some (.slice (some ⟨g, 0, none⟩) n cap)) (hBl : B < w0.heap.size) (hBg : B ≠ g) (hn : n ≤ 1000000) (a b : Nat) (hab : a ≤ b) (hb : b ≤ n) (G : Nat → Nat) (w : World) (hs : SG F n w0 g pad w G) (ht : ∀ p q, a ≤ p → p < q → q < b → G p < G q) :
    Calls Tryd.prog 171 #[.agg #[.func (.func 107) #[] #[.pointer (some ⟨B, 0, none⟩)], .func (.func sf) #[] sb], .int .i64 (a : Int), .int .i64 (b : Int)] w (MgP F n w0 g pad a b G w) := by
  obtain ⟨d, h1, h2⟩ := hs
  obtain ⟨G', r1, r2, r3⟩ := ins_tag h2 hab hb ht
  have hB2 : w.cell? ⟨B, 0, none⟩ = some (.slice (some ⟨g, 0, none⟩) n cap) := (World.cell?_of_block (h1.1.block B hBl (fun e => hBg (Option.some.inj e)))).trans hB
  refine (ins_func B g n cap pad sf sb hSw d a b w h1.2 h2.1 hB2 (Nat.lt_of_lt_of_le hBl h1.1.size) hBg hab hb hn).mono ?_
  rintro e w' ⟨rfl, hr⟩
  exact ⟨rfl, hr.1, G', ⟨_, hr.base h1.1, r1⟩, r2, r3⟩

/-- What the stable sort leaves. -/
def StP (F : Nat → Nd) (n : Nat) (w0 : World) (g : Nat) (pad : List Value) (w : World) (e : Ending) (w' : World) : Prop := e = .returned (.tuple #[]) ∧ w.grownBy w' (some g) ∧ ∃ G', SG F n w0 g pad w' G' ∧ Sd F 0 n G' ∧ ∀ k, k < n → G' k < n

set_option maxRecDepth 100000 in
set_option maxHeartbeats 3200000 in
theorem stable_any (F : Nat → Nd) (B g n cap : Nat) (pad : List Value) (w0 : World) (sf : Nat) (sb : Array Value) (hSw : ∀ w1, SwapN sf sb w1 g pad n) (hB : w0.cell? ⟨B, 0, none⟩ = some (.slice (some ⟨g, 0, none⟩) n cap)) (hBl : B < w0.heap.size) (hBg : B ≠ g) (hn : n ≤ 1000000) (w : World) (hs : SG F n w0 g pad w (fun k => k)) :
    Calls Tryd.prog 149 #[.agg #[.func (.func 107) #[] #[.pointer (some ⟨B, 0, none⟩)], .func (.func sf) #[] sb], .int .i64 (n : Int)] w (StP F n w0 g pad w) := by
  obtain ⟨w1, hw1⟩ : ∃ w1, w1 = w.alloc (.cells #[.func (.func 107) #[] #[.pointer (some ⟨B, 0, none⟩)], .func (.func sf) #[] sb] 186) := ⟨_, rfl⟩
  have hbw : Below w.heap.size w w1 := by rw [hw1]; exact (Below.refl _ _).alloc (Nat.le_refl _) _
  have hX : Has w1 w.heap.size 186 #[.func (.func 107) #[] #[.pointer (some ⟨B, 0, none⟩)], .func (.func sf) #[] sb] := by rw [hw1]; exact Has.new _ _ _
  have hXg : w.heap.size ≠ g := by have := hs.lt; omega
  have HK := Lib.hid (grown_of (g := g) hbw)
  have hs1 := hs.below hbw
  have HIN := Lib.hid (fun (a b : Nat) (hab : a ≤ b) (hb : b ≤ n) (G : Nat → Nat) (w : World) (hs : SG F n w0 g pad w G) ht => ins_any F B g n cap pad w0 sf sb hSw hB hBl hBg hn a b hab hb G w hs ht)
  have HMG := Lib.hid (fun (a m b : Nat) (h1 : a < m) (h2 : m < b) (h3 : b ≤ n) (G : Nat → Nat) (w : World) (hs : SG F n w0 g pad w G) k1 k2 kt => sym_any F B g n pad w0 sf sb hSw (lessN hB hBl hBg) hn (b - a) a m b (Nat.le_refl _) h1 h2 h3 G w hs k1 k2 kt)
  clear hs hSw hB hBl hbw
  go_enter Tryd.func149, Tryd.ntmps149
  go_wp2_with fail
  rw [← hw1]
  clear hw1
  go_loopw [5, 6] (fun va vb wr => ∃ (a : Nat) (G : Nat → Nat), va = .int .i64 (a : Int) ∧ vb = .int .i64 ((a : Int) + 20) ∧ a ≤ n ∧ w1.grownBy wr (some g) ∧ SG F n w0 g pad wr G ∧ Hid (20 ∣ a ∧ Part F n 20 a G ∧ ∀ k, a ≤ k → G k = k)) (fun va _ _ => n - (intOf va).toNat)
  case atStart => exact ⟨0, fun k => k, rfl, rfl, Nat.zero_le _, grownBy_refl _ _, hs1, Lib.hid ⟨Nat.dvd_zero _, part_start, fun _ _ => rfl⟩⟩
  case round =>
    clear hs1
    obtain ⟨a, G, rfl, rfl, han, hgr, hs, HP⟩ := hrel
    have hX2 := has_aside hgr hX hXg
    have x0 := hX2.cell 0
    have x1 := hX2.cell 1
    clear hX2
    by_cases hlt : a + 20 ≤ n
    · have hltz : (a : Int) + 20 ≤ (n : Int) := by omega
      have HC := HIN.out a (a + 20) (by omega) hlt G wr hs (fun p q p1 p2 _ => by rw [HP.out.2.2 p p1, HP.out.2.2 q (by omega)]; exact p2)
      rw [show ((a + 20 : Nat) : Int) = (a : Int) + 20 by omega] at HC
      have HC := Lib.hid HC
      have HNX := Lib.hid (fun (H : Nat → Nat) (hw : Wi a (a + 20) G H) (hs : Sd F a (a + 20) H) => (⟨Nat.dvd_add HP.out.1 (Nat.dvd_refl 20), part_next HP.out.2.1 HP.out.1 hw hs hlt, fun k hk => by rw [hw.1 k (.inr hk)]; exact HP.out.2.2 k (by omega)⟩ : 20 ∣ a + 20 ∧ Part F n 20 (a + 20) H ∧ ∀ k, a + 20 ≤ k → H k = k))
      clear hs
      go_wp2_with fail
      refine (HC.out).mono ?_
      rintro e w2 ⟨rfl, hg2, H, hs2, hw2, hsd2⟩
      have HN := Lib.hid (HNX.out H hw2 hsd2)
      clear hw2 hsd2 HNX HC x0 x1 HP
      go_wp2_with fail
      exact ⟨⟨a + 20, H, by go_num, by go_num, hlt, grownBy_trans hgr hg2, hs2, HN⟩, by simp [intOf]; omega⟩
    · have hltz : ¬ (a : Int) + 20 ≤ (n : Int) := by omega
      have HC := Lib.hid (HIN.out a n han (Nat.le_refl _) G wr hs (fun p q p1 p2 _ => by rw [HP.out.2.2 p p1, HP.out.2.2 q (by omega)]; exact p2))
      have HFN := Lib.hid (fun (H : Nat → Nat) (hw : Wi a n G H) (hs : Sd F a n H) => part_fin HP.out.2.1 HP.out.1 han (by omega) hw hs)
      clear hs
      go_wp2_with fail
      refine (HC.out).mono ?_
      rintro e w2 ⟨rfl, hg2, H, hs2, hw2, hsd2⟩
      have HF := Lib.hid (HFN.out H hw2 hsd2)
      have hgr2 := grownBy_trans hgr hg2
      clear hw2 hsd2 HFN HC x0 x1 HP hgr hg2 hltz hlt
      go_wp2_with fail
      go_loopw [4] (fun vs wz => ∃ (s : Nat) (G : Nat → Nat), vs = .int .i64 (s : Int) ∧ 1 ≤ s ∧ s ≤ 2000020 ∧ w1.grownBy wz (some g) ∧ SG F n w0 g pad wz G ∧ Hid (FinB F n s G)) (fun vs _ => n - (intOf vs).toNat)
      case atStart => exact ⟨20, H, rfl, by omega, by omega, hgr2, hs2, HF⟩
      case round =>
        clear hs2 hgr2 HF
        obtain ⟨s, G1, rfl, hs1', hsm, hgr, hs, HF⟩ := hrel
        by_cases hsn : s < n
        · have hsz : (s : Int) < (n : Int) := by omega
          have w2' : IntKind.i64.wrap (2 * (s : Int)) = 2 * (s : Int) := IntWalk.i64_in _ (by omega)
          have w3' : IntKind.i64.wrap ((s : Int) * 2) = (s : Int) * 2 := IntWalk.i64_in _ (by omega)
          have HBS := Lib.hid (back_start HF.out)
          clear HF
          go_wp2_with fail
          go_loopw [5, 6] (fun va vb wq => ∃ (a : Nat) (G : Nat → Nat), va = .int .i64 (a : Int) ∧ vb = .int .i64 ((a : Int) + 2 * (s : Int)) ∧ a ≤ n ∧ w1.grownBy wq (some g) ∧ SG F n w0 g pad wq G ∧ Hid (2 * s ∣ a ∧ Part F n (2 * s) a G ∧ Back F n s a G)) (fun va _ _ => n - (intOf va).toNat)
          case atStart => exact ⟨0, G1, rfl, by first | rfl | (congr 1; omega) | simp, Nat.zero_le _, hgr, hs, Lib.hid ⟨Nat.dvd_zero _, HBS.out.1, HBS.out.2⟩⟩
          case round =>
            clear hs hgr HBS
            obtain ⟨a, G, rfl, rfl, han, hgr, hs, HP⟩ := hrel
            have hX2 := has_aside hgr hX hXg
            have x0 := hX2.cell 0
            have x1 := hX2.cell 1
            clear hX2
            have HSA : Hid (s ∣ a) := Lib.hid (Nat.dvd_trans (Nat.dvd_mul_left s 2) HP.out.1)
            have HB1 := Lib.hid (HP.out.2.2 a HSA.out (Nat.le_refl _))
            have HB2 := Lib.hid (HP.out.2.2 (a + s) (Nat.dvd_add HSA.out (Nat.dvd_refl s)) (Nat.le_add_right _ _))
            by_cases hlt : a + 2 * s ≤ n
            · have hltz : (a : Int) + 2 * (s : Int) ≤ (n : Int) := by omega
              have HC := HMG.out a (a + s) (a + 2 * s) (by omega) (by omega) hlt G wr hs (by have := HB1.out.1; rwa [Nat.min_eq_left (by omega)] at this) (by have := HB2.out.1; rwa [show a + s + s = a + 2 * s by omega, Nat.min_eq_left hlt] at this) (fun p q p1 p2 q1 q2 => HB2.out.2 p q p2 q1 (by omega))
              rw [show ((a + s : Nat) : Int) = (a : Int) + (s : Int) by omega, show ((a + 2 * s : Nat) : Int) = (a : Int) + 2 * (s : Int) by omega] at HC
              have HC := Lib.hid HC
              have HNX := Lib.hid (fun (H : Nat → Nat) (hw : Wi a (a + 2 * s) G H) (hs : Sd F a (a + 2 * s) H) => (⟨Nat.dvd_add HP.out.1 (Nat.dvd_refl _), part_next HP.out.2.1 HP.out.1 hw hs hlt, back_next HP.out.2.2 hw hlt⟩ : 2 * s ∣ a + 2 * s ∧ Part F n (2 * s) (a + 2 * s) H ∧ Back F n s (a + 2 * s) H))
              clear hs HB1 HB2 HSA
              go_wp2_with fail
              refine (HC.out).mono ?_
              rintro e w3 ⟨rfl, hg3, H3, hs3, hw3, hsd3⟩
              have HN := Lib.hid (HNX.out H3 hw3 hsd3)
              clear hw3 hsd3 HNX HC x0 x1 HP
              go_wp2_with fail
              exact ⟨⟨a + 2 * s, H3, by first | rfl | (congr 1; omega) | go_num, by first | rfl | (congr 1; omega) | go_num, hlt, grownBy_trans hgr hg3, hs3, HN⟩, by simp [intOf]; omega⟩
            · have hltz : ¬ (a : Int) + 2 * (s : Int) ≤ (n : Int) := by omega
              by_cases hm : a + s < n
              · have hmz : (a : Int) + (s : Int) < (n : Int) := by omega
                have HC := HMG.out a (a + s) n (by omega) hm (Nat.le_refl _) G wr hs (by have := HB1.out.1; rwa [Nat.min_eq_left (by omega)] at this) (by have := HB2.out.1; rwa [Nat.min_eq_right (by omega)] at this) (fun p q p1 p2 q1 q2 => HB2.out.2 p q p2 q1 q2)
                rw [show ((a + s : Nat) : Int) = (a : Int) + (s : Int) by omega] at HC
                have HC := Lib.hid HC
                have HFN := Lib.hid (fun (H : Nat → Nat) (hw : Wi a n G H) (hs : Sd F a n H) => part_fin HP.out.2.1 HP.out.1 han (by omega) hw hs)
                clear hs HB1 HB2 HSA
                go_wp2_with fail
                refine (HC.out).mono ?_
                rintro e w3 ⟨rfl, hg3, H3, hs3, hw3, hsd3⟩
                have HN := Lib.hid (HFN.out H3 hw3 hsd3)
                clear hw3 hsd3 HFN HC x0 x1 HP
                go_wp2_with fail
                exact ⟨⟨2 * s, H3, by first | rfl | (congr 1; omega) | go_num, by omega, by omega, grownBy_trans hgr hg3, hs3, HN⟩, by simp [intOf]; omega⟩
              · have hmz : ¬ (a : Int) + (s : Int) < (n : Int) := by omega
                have HN : Hid (FinB F n (2 * s) G) := Lib.hid (part_fin HP.out.2.1 HP.out.1 han (by omega) (Wi.refl a n G) (by have := HB1.out.1; rwa [Nat.min_eq_right (by omega)] at this))
                clear HB1 HB2 HSA HP x0 x1
                go_wp2_with fail
                exact ⟨⟨2 * s, G, by first | rfl | (congr 1; omega) | go_num, by omega, by omega, hgr, hs, HN⟩, by simp [intOf]; omega⟩
        · have hsz : ¬ (s : Int) < (n : Int) := by omega
          have HZ : Hid (Sd F 0 n G1) := Lib.hid (by have := HF.out.sd 0 (Nat.dvd_zero _); rwa [Nat.zero_add, Nat.min_eq_right (by omega)] at this)
          go_wp2_with fail
          go_end0
          exact ⟨rfl, grownBy_trans HK.out hgr, G1, hs, HZ.out, HF.out.img⟩
end Go.Proofs.YtiafimbehcemcaaDoor
