/-
  Rank, Interval and Owner of package roster, for any list of nodes: what they answer. Condition: the nodes can be read.
-/
import Derived.Test.YtdeamjimjcojhaaDoorLhE
import Derived.Test.YtdeamjimjcojhaaDoorLgJ
namespace Go.Proofs.YtdeamjimjcojhaaDoor
open Go.RowKit

theorem sort_med (A : Option Addr) (l : List Nd) (c : Nat) (w : World) (hl : Nds w w.heap.size A l) (hn : l.length ≤ 100000) : Calls Tryd.prog 53 #[.slice A l.length c] w (SrtP l w) := by
  refine (sort_big A l c w hl hn).mono ?_
  rintro e w' ⟨s, hs, h⟩
  exact ⟨s, hs.srt, h⟩
set_option maxRecDepth 100000 in
set_option maxHeartbeats 1600000 in
theorem ranked2 (A : Option Addr) (l : List Nd) (c : Nat) (id : Int) (w : World) (hl : Nds w w.heap.size A l) (hchk : chkV l = 0) :
    Calls Tryd.prog 62 #[.slice A l.length c, .int .i64 id] w (RkP l id w) := by
  have HC := Lib.hid ((check_any A l c w hl (ros_wide hchk)).mono fun e w' h => (⟨by rw [h.1, hchk], h.2⟩ : e = .returned (.int .i64 0) ∧ Below w.heap.size w w'))
  have HS := Lib.hid (fun (w1 : World) (k : Below w.heap.size w w1) => sort_med A l c w1 ((hl.below k).more k.size) (by have := (chkV_zero.1 hchk).1; omega))
  have HA := (chkV_zero.1 hchk).2.2
  have hsl : (srt l).length ≤ 64 := by rw [(srt_srt l).len]; exact (chkV_zero.1 hchk).1
  have HE : Hid (∀ s, Srt l s → s = srt l) := Lib.hid fun s h => srt_of h HA
  unfold RkP
  generalize srt l = S at *
  clear hl hchk HA
  go_enter Tryd.func62, Tryd.ntmps62
  go_wp2_with fail
  refine (HC.out).mono ?_
  rintro e w1 ⟨rfl, hb1⟩
  go_wp2_with fail
  refine (HS.out w1 hb1).mono ?_
  rintro e w2 ⟨s, hs, A2, c2, rfl, ho, hb2⟩
  obtain rfl := HE.out s hs
  obtain ⟨_, _, er, hr⟩ := ho.read
  injection er with e1 _ e2
  subst e1 e2
  have B2 := hb1.trans (hb2.mono hb1.size)
  have HP := Lib.hid (place_any A2 s c2 id w2 hr (by omega))
  clear HS HC HE ho hb1 hb2 hs
  by_cases hf : plc s id < s.length
  · have hz : plcI s id = (plc s id : Int) := if_pos hf
    rw [hz] at HP
    obtain ⟨k, hk⟩ : ∃ k, k = plc s id := ⟨_, rfl⟩
    rw [← hk] at HP hf
    have HK := Lib.hid hk
    clear hz hk
    have k0 : ¬ (k : Int) < 0 := by omega
    go_wp2_with fail
    refine (HP.out).mono ?_
    rintro e w3 ⟨rfl, hb3⟩
    have hr3 := (hr.below hb3).more hb3.size
    have B3 := B2.trans (hb3.mono B2.size)
    go_wp2_with fail
    go_ret3
    exact .inl ⟨by rw [← HK.out]; exact hf, A2, c2, by rw [← HK.out]; rfl, hr3, B3⟩
  · have hz : plcI s id = -1 := if_neg hf
    rw [hz] at HP
    clear hz
    go_wp2_with fail
    refine (HP.out).mono ?_
    rintro e w3 ⟨rfl, hb3⟩
    have B3 := B2.trans (hb3.mono B2.size)
    go_wp2_with fail
    go_ret3
    exact .inr ⟨hf, rfl, B3⟩

set_option maxRecDepth 100000 in
set_option maxHeartbeats 1600000 in
theorem rank2 (A : Option Addr) (l : List Nd) (c : Nat) (id : Int) (w : World) (hl : Nds w w.heap.size A l) (hchk : chkV l = 0) :
    Calls Tryd.prog 35 #[.slice A l.length c, .int .i64 id] w fun e w' => e = .returned (.tuple #[.int .i64 (rnkV (srt l) id : Int), .bool (decide (plc (srt l) id < (srt l).length))]) ∧ Below w.heap.size w w' := by
  have HR := Lib.hid (ranked2 A l c id w hl hchk)
  have HV : Hid (rnkV (srt l) id = if plc (srt l) id < (srt l).length then plc (srt l) id else 0) := Lib.hid rfl
  generalize rnkV (srt l) id = V at *
  obtain ⟨D, hD⟩ : ∃ D, D = decide (plc (srt l) id < (srt l).length) := ⟨_, rfl⟩
  rw [← hD]
  have HD := Lib.hid hD
  clear hD
  go_enter Tryd.func35, Tryd.ntmps35
  go_wp2_with fail
  refine (HR.out).mono ?_
  rintro e w1 (⟨hf, A1, c1, rfl, hr, hb⟩ | ⟨hf, rfl, hb⟩)
  · have e1 : V = plc (srt l) id := by rw [HV.out, if_pos hf]
    have e2 : D = true := by rw [HD.out]; simpa using hf
    subst e1 e2
    clear hr hf HV HD
    go_wp2_with fail
    go_ret2
    exact ⟨rfl, hb⟩
  · have e1 : V = 0 := by rw [HV.out, if_neg hf]
    have e2 : D = false := by rw [HD.out]; simpa using hf
    subst e1 e2
    clear hf HV HD
    go_wp2_with fail
    go_ret2
    exact ⟨rfl, hb⟩

set_option maxRecDepth 100000 in
set_option maxHeartbeats 1600000 in
theorem owner2 (A : Option Addr) (l : List Nd) (c : Nat) (key : ByteArray) (w : World) (hl : Nds w w.heap.size A l) (h0 : l ≠ []) (hchk : chkV l = 0) (hk : vk key = true) :
    Calls Tryd.prog 32 #[.slice A l.length c, .string key] w fun e w' => e = .returned (.tuple #[(ownV (srt l) key).val, .bool true]) ∧ Below w.heap.size w w' := by
  have hbC := (Below.refl w.heap.size w).alloc (Nat.le_refl _) (.cells #[.string key] 9)
  have hb0 := hbC.alloc hbC.size (.cells #[.int .i64 0, .string ByteArray.empty, .int .u32 0] 51)
  have hX := Has.new (w.alloc (.cells #[.string key] 9)) 51 #[.int .i64 0, .string ByteArray.empty, .int .u32 0]
  rw [World.size_alloc] at hX
  have hC := (Has.new w 9 #[.string key]).alloc (.cells #[.int .i64 0, .string ByteArray.empty, .int .u32 0] 51)
  have hC0 := hC.cell 0
  have HC := Lib.hid ((check_any A l c _ ((hl.below hb0).more hb0.size) (ros_wide hchk)).mono fun e w' h => (⟨by rw [h.1, hchk], h.2⟩ : e = .returned (.int .i64 0) ∧ Below _ _ w'))
  have HS := Lib.hid (fun (w1 : World) (k : Below w.heap.size w w1) => sort_med A l c w1 ((hl.below k).more k.size) (by have := (chkV_zero.1 hchk).1; omega))
  have HV := Lib.hid (fun w1 => (vk_key key w1).mono fun e w' h => (⟨by rw [h.1, hk], h.2⟩ : e = .returned (.bool true) ∧ w1 = w'))
  have hR := ros_of hchk
  have HE : Hid (∀ s, Srt l s → s = srt l) := Lib.hid fun s h => srt_of h (chkV_zero.1 hchk).2.2
  have hsl : (srt l).length = l.length := (srt_srt l).len
  have hl1 : 1 ≤ l.length := by
    cases l with
    | nil => exact absurd rfl h0
    | cons x l => simp
  have hl0 : ((l.length : Int) == 0) = false := by simp; omega
  have hs20 : (srt l).length ≤ 64 := by have := (chkV_zero.1 hchk).1; omega
  have hs1 : 1 ≤ (srt l).length := by omega
  clear hsl
  have HA := Lib.hid hR.asc
  have HX := Lib.hid hX
  have HCB := Lib.hid hC
  have HB0 := Lib.hid hb0
  obtain ⟨V, hV⟩ : ∃ V, V = ownV (srt l) key := ⟨_, rfl⟩
  rw [← hV]
  have HVV := Lib.hid hV
  clear hV hX hC hbC hR hchk hl h0
  generalize srt l = S at *
  go_enter Tryd.func32, Tryd.ntmps32
  go_wp2_with fail
  refine (HC.out).mono ?_
  rintro e w1 ⟨rfl, hb1⟩
  have c1 := (HCB.out.below hb1).cell 0
  go_wp2_with fail
  refine (HV.out _).mono ?_
  rintro e w' ⟨rfl, rfl⟩
  go_wp2_with fail
  have B1 := HB0.out.trans (hb1.mono HB0.out.size)
  have X1 := HX.out.below hb1
  have K1 := HCB.out.below hb1
  refine (HS.out w1 B1).mono ?_
  rintro e w2 ⟨s, hs, A2, c2, rfl, ho, hb2⟩
  obtain rfl := HE.out s hs
  obtain ⟨_, _, er, hr⟩ := ho.read
  injection er with e1 _ e2
  subst e1 e2
  have B2 := B1.trans (hb2.mono B1.size)
  have X2 := X1.below hb2
  have K2 := K1.below hb2
  have hb3 := (Below.refl w2.heap.size w2).alloc (Nat.le_refl _) (.cells #[.slice A2 s.length c2] 23)
  have hBx := Has.new w2 23 #[.slice A2 s.length c2]
  have b0 := hBx.cell 0
  have hr3 := hr.below hb3
  have K3 := K2.below hb3
  have X3 := X2.below hb3
  have B3 := B2.trans (hb3.mono B2.size)
  have hlt : abv s key - 1 < s.length := by have := abv_le s key; omega
  have HSE := Lib.hid (search_any (fun i => decide (abv s key ≤ i)) (fun i j hij h => by simp at h ⊢; omega) s.length (by omega) #[.pointer (some ⟨w2.heap.size, 0, none⟩), .pointer (some ⟨w.heap.size, 0, none⟩)] (w2.alloc (.cells #[.slice A2 s.length c2] 23)) (fun W hW i hi => by
    obtain ⟨b, o, rfl, hbl, f1, f2, f3⟩ := hr3.at_ hi
    have hbl3 : b < (w2.alloc (.cells #[.slice (some ⟨b, o, none⟩) s.length c2] 23)).heap.size := Nat.lt_of_lt_of_le hbl hb3.size
    have hgt := gt_any w2.heap.size w.heap.size b o s.length c2 i s[i].key key W ((hW.cell (p := ⟨w2.heap.size, 0, none⟩) hBx.lt).trans b0) ((hW.cell (p := ⟨w.heap.size, 0, none⟩) K3.lt).trans (K3.cell 0)) hi ((hW.cell (p := ⟨b, o + i * 3 + 1, none⟩) hbl3).trans f2)
    rw [ask_kl HA.out key hi] at hgt
    exact hgt))
  obtain ⟨b, o, hA2, hbl, f1, f2, f3⟩ := hr3.at_ hlt
  subst hA2
  have hbl3 : b < (w2.alloc (.cells #[.slice (some ⟨b, o, none⟩) s.length c2] 23)).heap.size := Nat.lt_of_lt_of_le hbl hb3.size
  have HVS : Hid (V = s[abv s key - 1]) := Lib.hid (by rw [HVV.out]; unfold ownV; simp [hlt])
  have HHR := Lib.hid hr
  clear HS HV HE ho hr hr3 X1 X2 K1 K2 B1 B2 hb1 hb2 hs HCB HX HB0 HC HVV
  generalize s[abv s key - 1] = y at *
  have HX3 := Lib.hid X3
  have HB3 := Lib.hid B3
  have HHB := Lib.hid hBx
  clear X3 B3 hBx K3
  obtain ⟨k, hk'⟩ : ∃ k, k = abv s key := ⟨_, rfl⟩
  have hkn : k ≤ s.length := by rw [hk']; exact abv_le s key
  rw [← hk'] at hlt f1 f2 f3 HSE
  have HK := Lib.hid hk'
  clear hk' c1
  go_wp2_with fail
  refine (HSE.out).mono ?_
  rintro e w4 ⟨q, hq, hq1, hq2, rfl, hb4⟩
  obtain rfl : q = k := by
    rcases Nat.lt_trichotomy q k with h | h | h
    · have := hq2 q (Nat.le_refl _) (by omega)
      simp at this
      omega
    · exact h
    · have := hq1 k h
      simp at this
  have F1 := (hb4.cell (p := ⟨b, o + (q - 1) * 3, none⟩) hbl3).trans f1
  have F2 := (hb4.cell (p := ⟨b, o + (q - 1) * 3 + 1, none⟩) hbl3).trans f2
  have F3 := (hb4.cell (p := ⟨b, o + (q - 1) * 3 + 2, none⟩) hbl3).trans f3
  have X4 := HX3.out.below hb4
  have g0 := X4.cell 0
  have g1 := X4.cell 1
  have g2 := X4.cell 2
  have gz := fun o => X4.frozen o
  have bb := (HHB.out.below hb4).cell 0
  have HB4 := Lib.hid (HB3.out.trans (hb4.mono HB3.out.size))
  clear X4 hq1 hq2 HSE f1 f2 f3 b0 hb3 hb4
  obtain ⟨yi, yk, yw⟩ := y
  by_cases hq0 : q = 0
  · subst hq0
    have l0 : (0 : Int) < (s.length : Int) := by omega
    simp only [Nat.zero_sub, Nat.zero_mul, Nat.add_zero] at F1 F2 F3
    go_wp2_with fail
    refine bodyPost_ret (v := .tuple #[.agg #[.int .i64 yi, .string yk, .int .u32 (yw : Int)], .bool true]) (by simp [results, Tryd.results32, go_sem, *]) rfl ⟨by rw [HVS.out], ?_⟩
    exact ((HB4.out.setCell (Nat.le_succ _) _).setCell (Nat.le_succ _) _).setCell (Nat.le_succ _) _
  · obtain ⟨p, rfl⟩ : ∃ p, q = p + 1 := ⟨q - 1, by omega⟩
    simp only [Nat.add_sub_cancel] at F1 F2 F3
    have l0 : (0 : Int) ≤ (p : Int) := by omega
    have l1 : (p : Int) < (s.length : Int) := by omega
    go_wp2_with fail
    refine bodyPost_ret (v := .tuple #[.agg #[.int .i64 yi, .string yk, .int .u32 (yw : Int)], .bool true]) (by simp [results, Tryd.results32, go_sem, *]) rfl ⟨by rw [HVS.out], ?_⟩
    exact ((HB4.out.setCell (Nat.le_succ _) _).setCell (Nat.le_succ _) _).setCell (Nat.le_succ _) _

/-- What the three answer for any list. -/
def rkB (l : List Nd) (id : Int) : Bool := decide (chkV l = 0) && decide (plc (srt l) id < (srt l).length)
def rkN (l : List Nd) (id : Int) : Nat := if rkB l id = true then plc (srt l) id else 0
def ivR (l : List Nd) (id : Int) : Rg := if rkB l id = true then ivlAt (srt l) (plc (srt l) id) else Rg.zero
def owB (l : List Nd) (key : ByteArray) : Bool := decide (chkV l = 0) && (decide (0 < l.length) && vk key)
def owN (l : List Nd) (key : ByteArray) : Nd := if owB l key = true then ownV (srt l) key else Nd.none

set_option maxRecDepth 100000 in
set_option maxHeartbeats 800000 in
theorem ranked_bad (A : Option Addr) (l : List Nd) (c : Nat) (id : Int) (w : World) (hl : Nds w w.heap.size A l) (hwd : ∀ x ∈ l, x.word < 4294967296) (hchk : chkV l ≠ 0) :
    Calls Tryd.prog 62 #[.slice A l.length c, .int .i64 id] w fun e w' => e = .returned (.tuple #[.slice none 0 0, .int .i64 0, .bool false]) ∧ Below w.heap.size w w' := by
  have HC := Lib.hid (check_any A l c w hl hwd)
  have hz : (chkV l != 0) = true := by simpa using hchk
  generalize chkV l = Z at *
  clear hl hchk
  go_enter Tryd.func62, Tryd.ntmps62
  go_wp2_with fail
  refine (HC.out).mono ?_
  rintro e w1 ⟨rfl, hb1⟩
  go_wp2_with fail
  go_ret3
  exact ⟨rfl, hb1⟩
set_option maxRecDepth 100000 in
set_option maxHeartbeats 800000 in
theorem rank_bad (A : Option Addr) (l : List Nd) (c : Nat) (id : Int) (w : World) (hl : Nds w w.heap.size A l) (hwd : ∀ x ∈ l, x.word < 4294967296) (hchk : chkV l ≠ 0) :
    Calls Tryd.prog 35 #[.slice A l.length c, .int .i64 id] w fun e w' => e = .returned (.tuple #[.int .i64 0, .bool false]) ∧ Below w.heap.size w w' := by
  have HR := Lib.hid (ranked_bad A l c id w hl hwd hchk)
  clear hl hwd hchk
  go_enter Tryd.func35, Tryd.ntmps35
  go_wp2_with fail
  refine (HR.out).mono ?_
  rintro e w1 ⟨rfl, hb⟩
  go_wp2_with fail
  go_ret2
  exact ⟨rfl, hb⟩
set_option maxRecDepth 100000 in
set_option maxHeartbeats 800000 in
theorem owner_bad (A : Option Addr) (l : List Nd) (c : Nat) (key : ByteArray) (w : World) (hl : Nds w w.heap.size A l) (hwd : ∀ x ∈ l, x.word < 4294967296) (hchk : chkV l ≠ 0) :
    Calls Tryd.prog 32 #[.slice A l.length c, .string key] w fun e w' => e = .returned (.tuple #[Nd.none.val, .bool false]) ∧ Below w.heap.size w w' := by
  have hbC := (Below.refl w.heap.size w).alloc (Nat.le_refl _) (.cells #[.string key] 9)
  have hb0 := hbC.alloc hbC.size (.cells #[.int .i64 0, .string ByteArray.empty, .int .u32 0] 51)
  have hX := Has.new (w.alloc (.cells #[.string key] 9)) 51 #[.int .i64 0, .string ByteArray.empty, .int .u32 0]
  rw [World.size_alloc] at hX
  have HC := Lib.hid (check_any A l c _ ((hl.below hb0).more hb0.size) hwd)
  have hz : (chkV l != 0) = true := by simpa using hchk
  generalize chkV l = Z at *
  have HX := Lib.hid hX
  have HB0 := Lib.hid hb0
  clear hl hwd hchk hX hb0 hbC
  go_enter Tryd.func32, Tryd.ntmps32
  go_wp2_with fail
  refine (HC.out).mono ?_
  rintro e w1 ⟨rfl, hb1⟩
  have X4 := HX.out.below hb1
  have g0 := X4.cell 0
  have g1 := X4.cell 1
  have g2 := X4.cell 2
  have gz := fun o => X4.frozen o
  have HB4 := Lib.hid (HB0.out.trans (hb1.mono HB0.out.size))
  clear X4 hb1
  go_wp2_with fail
  refine bodyPost_ret (v := .tuple #[.agg #[.int .i64 0, .string ⟨#[]⟩, .int .u32 0], .bool false]) (by simp [results, Tryd.results32, go_sem, *]) rfl ⟨rfl, ?_⟩
  exact ((HB4.out.setCell (Nat.le_succ _) _).setCell (Nat.le_succ _) _).setCell (Nat.le_succ _) _
theorem rank_gen (A : Option Addr) (l : List Nd) (c : Nat) (id : Int) (w : World) (hl : Nds w w.heap.size A l) (hwd : ∀ x ∈ l, x.word < 4294967296) :
    Calls Tryd.prog 35 #[.slice A l.length c, .int .i64 id] w fun e w' => e = .returned (.tuple #[.int .i64 (rkN l id : Int), .bool (rkB l id)]) ∧ Below w.heap.size w w' := by
  by_cases hc : chkV l = 0
  · have e1 : rkB l id = decide (plc (srt l) id < (srt l).length) := by simp [rkB, hc]
    have e2 : rkN l id = rnkV (srt l) id := by unfold rkN rnkV; rw [e1]; simp
    rw [e1, e2]
    exact rank2 A l c id w hl hc
  · have e1 : rkB l id = false := by simp [rkB, hc]
    have e2 : rkN l id = 0 := by simp [rkN, e1]
    rw [e1, e2]
    exact rank_bad A l c id w hl hwd hc
theorem owner_gen (A : Option Addr) (l : List Nd) (c : Nat) (key : ByteArray) (w : World) (hl : Nds w w.heap.size A l) (hwd : ∀ x ∈ l, x.word < 4294967296) :
    Calls Tryd.prog 32 #[.slice A l.length c, .string key] w fun e w' => e = .returned (.tuple #[(owN l key).val, .bool (owB l key)]) ∧ Below w.heap.size w w' := by
  by_cases hc : chkV l = 0
  · by_cases h0 : l = []
    · have e1 : owB l key = false := by simp [owB, h0]
      have e2 : owN l key = Nd.none := by simp [owN, e1]
      rw [e1, e2]
      exact owner_no A l c key w hl hc (.inl h0)
    · cases hk : vk key
      · have e1 : owB l key = false := by simp [owB, hk]
        have e2 : owN l key = Nd.none := by simp [owN, e1]
        rw [e1, e2]
        exact owner_no A l c key w hl hc (.inr hk)
      · have e1 : owB l key = true := by simp [owB, hk, hc, List.length_pos_iff.2 h0]
        have e2 : owN l key = ownV (srt l) key := by simp [owN, e1]
        rw [e1, e2]
        exact owner2 A l c key w hl h0 hc hk
  · have e1 : owB l key = false := by simp [owB, hc]
    have e2 : owN l key = Nd.none := by simp [owN, e1]
    rw [e1, e2]
    exact owner_bad A l c key w hl hwd hc
end Go.Proofs.YtdeamjimjcojhaaDoor
