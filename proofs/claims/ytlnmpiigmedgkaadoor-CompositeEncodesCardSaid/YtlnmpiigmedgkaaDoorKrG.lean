/-
  The reference of chapter 2: Compare. Conditions: the arguments can be read.
-/
import Derived.Test.YtlnmpiigmedgkaaDoorKrF
import Derived.Deep.RegionHeld3
namespace Go.Proofs.YtlnmpiigmedgkaaDoor
open Go.RowKit

/-- In a region that draws its order: what is shown under a stronger condition holds under a weaker one. -/
theorem held_more2 {P : Program} {md : Region.Mode} {ops : Array Oper} {Q : Exit → Act → World → Prop} {S S' : World → Prop} (hS : ∀ w, S' w → S w) :
    ∀ (fuel : Nat) (listed : Array Bool) (a : Act) (w : World), wpAnyH P md ops Q S' fuel listed a w → wpAnyH P md ops Q S fuel listed a w
  | 0, _, _, _, h => h
  | fuel + 1, _, _, _, h => ⟨h.1, fun i hi => wpOp_mono (fun a' w' h' => ⟨hS w' h'.1, held_more2 hS fuel _ a' w' h'.2⟩) (h.2 i hi)⟩
/-- An operation is taken first, its slot written out. -/
theorem take_at2 {P : Program} {md : Region.Mode} {ops : Array Oper} {Q : Exit → Act → World → Prop} {S : World → Prop} {i : Nat} {oi : Oper} {d : Option Tmp} {v : Value} {fuel : Nat} {listed : Array Bool} {a : Act} {w : World} (hi : ops[i]? = some oi) (hd : oi.dst = d)
    (hs : Region.noSelect ops = true) (hf : Region.free md ops listed i = true) (hr : (Region.ready md ops listed).contains i = true)
    (hQ : ∀ c a w, Q (.panic c) (a.put oi.dst v) w → Q (.panic c) a w) (hy : YieldsIf P ops S oi v a) (hS : S w)
    (h : wpAnyH P md ops Q S fuel (listed.setIfInBounds i true) (a.put d v) w) : wpAnyH P md ops Q S (fuel + 1) listed a w :=
  wpAnyH_take hi hs hf hr hQ hy hS (by rw [hd]; exact h)
theorem cmpR_go {s : List Col} {a b : List Fd} {k : Nat} (h0 : k < s.length) (h1 : k < a.length) (h2 : k < b.length) (hs : a[k].same b[k] = true) : cmpR (s.drop k) (a.drop k) (b.drop k) = cmpR (s.drop (k + 1)) (a.drop (k + 1)) (b.drop (k + 1)) := by
  rw [cmpR_step h0 h1 h2, cmpF_same hs, if_pos rfl]
theorem cmpR_at {s : List Col} {a b : List Fd} {k : Nat} (h0 : k < s.length) (h1 : k < a.length) (h2 : k < b.length) (f1 : a[k].fits s[k] = true) (f2 : b[k].fits s[k] = true) (hs : a[k].same b[k] = false) : cmpR (s.drop k) (a.drop k) (b.drop k) = if (lessF a[k] b[k] != s[k].desc) = true then -1 else 1 := by
  rw [cmpR_step h0 h1 h2, cmpF_less f1 f2 hs]
  cases lessF a[k] b[k] <;> cases s[k].desc <;> rfl

set_option maxRecDepth 100000 in
set_option maxHeartbeats 6400000 in
theorem rcompare_any (A0 A1 A2 : Option Addr) (s : List Col) (a b : List Fd) (c0 c1 c2 : Nat) (w : World) (hs : Cols w w.heap.size A0 s) (ha : Fds w w.heap.size A1 a) (hb : Fds w w.heap.size A2 b) :
    Calls Tryd.prog 71 #[.slice A0 s.length c0, .slice A1 a.length c1, .slice A2 b.length c2] w (IntB (cmpL s a b) w) := by
  cases hfa : fitsL s a
  · have hr : cmpL s a b = 0 := by simp [cmpL, hfa]
    rw [hr]
    have H1 := Lib.hid ((rfitsL_any A0 A1 s a c0 c1 w hs ha).mono fun e w' h => (⟨by rw [h.1, hfa], h.2⟩ : e = .returned (.bool false) ∧ Below w.heap.size w w'))
    clear hr hfa
    go_enter Tryd.func71, Tryd.ntmps71
    go_wp2_with fail
    refine (H1.out).mono ?_
    rintro e w1 ⟨rfl, hb1⟩
    go_wp2_with fail
    go_ret
    exact ⟨rfl, hb1⟩
  · have H1 := Lib.hid ((rfitsL_any A0 A1 s a c0 c1 w hs ha).mono fun e w' h => (⟨by rw [h.1, hfa], h.2⟩ : e = .returned (.bool true) ∧ Below w.heap.size w w'))
    have H2 := Lib.hid (fun (w1 : World) (k : Below w.heap.size w w1) => (rfitsL_any A0 A2 s b c0 c2 w1 ((hs.below k).more k.size) ((hb.below k).more k.size)))
    cases hfb : fitsL s b
    · have hr : cmpL s a b = 0 := by simp [cmpL, hfb]
      rw [hr]
      have HF := Lib.hid hfb
      clear hr hfa hfb
      go_enter Tryd.func71, Tryd.ntmps71
      go_wp2_with fail
      refine (H1.out).mono ?_
      rintro e w1 ⟨rfl, hb1⟩
      go_wp2_with fail
      refine (H2.out w1 hb1).mono ?_
      rintro e w2 ⟨he, hb2⟩
      rw [HF.out] at he
      subst he
      go_wp2_with fail
      go_ret
      exact ⟨rfl, hb1.trans (hb2.mono hb1.size)⟩
    · have hr : cmpL s a b = cmpR s a b := by simp [cmpL, hfa, hfb]
      rw [hr]
      have HF := Lib.hid hfb
      simp only [fitsL, Bool.and_eq_true] at hfa hfb
      have hla : a.length ≤ s.length := fitsR_len hfa.2
      have hlb : b.length ≤ s.length := fitsR_len hfb.2
      have hs6 := (schOk_len hfa.1).2
      have HFA := Lib.hid hfa.2
      have HFB := Lib.hid hfb.2
      clear hr hfa hfb
      go_enter Tryd.func71, Tryd.ntmps71
      go_wp2_with fail
      refine (H1.out).mono ?_
      rintro e w1 ⟨rfl, hb1⟩
      go_wp2_with fail
      refine (H2.out w1 hb1).mono ?_
      rintro e w2 ⟨he, hb2⟩
      rw [HF.out] at he
      subst he
      have hB := hb1.trans (hb2.mono hb1.size)
      clear hb1 hb2 H1 H2 HF
      go_wp2_with fail
      go_loopw [7] (fun i wr => ∃ k : Nat, k ≤ a.length ∧ k ≤ b.length ∧ i = .int .i64 (k : Int) ∧ Below w.heap.size w wr ∧ Hid (cmpR s a b = cmpR (s.drop k) (a.drop k) (b.drop k))) (fun i _ => a.length - (intOf i).toNat)
      case atStart => exact ⟨0, Nat.zero_le _, Nat.zero_le _, rfl, hB, rfl⟩
      case round =>
        clear hB
        obtain ⟨k, hk, hk2, rfl, hB, HE⟩ := hrel
        by_cases hlt : k < a.length ∧ k < b.length
        · obtain ⟨hka, hkb⟩ := hlt
          have hks : k < s.length := by omega
          have he := HE.out
          obtain ⟨b1, o1, hA1, hz1, d1, d2, d3⟩ := ha.at_ hka
          subst hA1
          replace d1 := (hB.cell (p := ⟨b1, o1 + k * 3, none⟩) hz1).trans d1
          replace d2 := (hB.cell (p := ⟨b1, o1 + k * 3 + 1, none⟩) hz1).trans d2
          replace d3 := (hB.cell (p := ⟨b1, o1 + k * 3 + 2, none⟩) hz1).trans d3
          obtain ⟨b2, o2, hA2, hz2, e1, e2, e3⟩ := hb.at_ hkb
          subst hA2
          replace e1 := (hB.cell (p := ⟨b2, o2 + k * 3, none⟩) hz2).trans e1
          replace e2 := (hB.cell (p := ⟨b2, o2 + k * 3 + 1, none⟩) hz2).trans e2
          replace e3 := (hB.cell (p := ⟨b2, o2 + k * 3 + 2, none⟩) hz2).trans e3
          obtain ⟨b0, o0, hA0, hz0, -, f2⟩ := hs.at_ hks
          subst hA0
          replace f2 := (hB.cell (p := ⟨b0, o0 + k * 2 + 1, none⟩) hz0).trans f2
          have G1 := Lib.hid (cmpR_go hks hka hkb)
          have G2 := Lib.hid (cmpR_at hks hka hkb (fitsR_at HFA.out hka hks) (fitsR_at HFB.out hkb hks))
          generalize s[k] = y at *
          generalize a[k] = x1 at *
          generalize b[k] = x2 at *
          obtain ⟨k1, n1, t1⟩ := x1
          obtain ⟨k2, n2, t2⟩ := x2
          obtain ⟨yk, yd⟩ := y
          have i0 : (0 : Int) ≤ (k : Int) := by omega
          have i1 : (k : Int) < (a.length : Int) := by omega
          have i2 : (k : Int) < (b.length : Int) := by omega
          have i3 : (k : Int) < (s.length : Int) := by omega
          have hBd := hB.drew
          have hz0' : b0 < wr.heap.size := Nat.lt_of_lt_of_le hz0 hB.size
          replace d1 : wr.drew.cell? ⟨b1, o1 + k * 3, none⟩ = some (.int .i64 k1) := d1
          replace d2 : wr.drew.cell? ⟨b1, o1 + k * 3 + 1, none⟩ = some (.int .i64 n1) := d2
          replace d3 : wr.drew.cell? ⟨b1, o1 + k * 3 + 2, none⟩ = some (.string t1) := d3
          replace e1 : wr.drew.cell? ⟨b2, o2 + k * 3, none⟩ = some (.int .i64 k2) := e1
          replace e2 : wr.drew.cell? ⟨b2, o2 + k * 3 + 1, none⟩ = some (.int .i64 n2) := e2
          replace e3 : wr.drew.cell? ⟨b2, o2 + k * 3 + 2, none⟩ = some (.string t2) := e3
          replace f2 : wr.drew.cell? ⟨b0, o0 + k * 2 + 1, none⟩ = some (.bool yd) := f2
          clear HFA HFB
          cases hsm : Fd.same ⟨k1, n1, t1⟩ ⟨k2, n2, t2⟩
          · have HE' : Hid (cmpR s a b = if (lessF ⟨k1, n1, t1⟩ ⟨k2, n2, t2⟩ != yd) = true then -1 else 1) := Lib.hid (he.trans (G2.out hsm))
            have HC : Hid (¬ (k1 = k2 ∧ n1 = n2 ∧ t1.toList = t2.toList)) := Lib.hid (by
              rintro ⟨e1, e2, e3⟩
              have hs2 : Fd.same ⟨k1, n1, t1⟩ ⟨k2, n2, t2⟩ = true := by rw [Fd.same_iff, e1, e2, toList_inj e3]
              rw [hsm] at hs2
              cases hs2)
            have HL := Lib.hid (fun W => rless_any ⟨k1, n1, t1⟩ ⟨k2, n2, t2⟩ W)
            generalize lessF ⟨k1, n1, t1⟩ ⟨k2, n2, t2⟩ = o at *
            have hEq : ∀ W, (binOp .eql 98 (.agg #[.int .i64 k1, .int .i64 n1, .string t1]) (.agg #[.int .i64 k2, .int .i64 n2, .string t2])).run Tryd.prog W = .ok (.bool false) W := fun W => by rw [eql_fd ⟨k1, n1, t1⟩ ⟨k2, n2, t2⟩, hsm]
            clear he HE G1 G2 hsm
            go_wp2_with fail
            refine wp_region_still_tail 8 (by kernel_rfl) (by kernel_rfl) ?_
            simp only [List.take_succ_cons, List.take_zero, List.drop_succ_cons, List.drop_zero]
            change wpStill _ _ wr.drew (fun a' => wpList _ _ _ _ a' wr.drew) _ _
            generalize hw9 : wr.drew = w9 at *
            have hz9 : b0 < w9.heap.size := by rw [← hw9]; exact hz0'
            clear hw9
            repeat still_step
            refine wpStill_nil ?_
            go_wp2_with fail
            have s1 : w9.drew.cell? ⟨b1, o1 + k * 3, none⟩ = some (.int .i64 k1) := d1
            have s2 : w9.drew.cell? ⟨b1, o1 + k * 3 + 1, none⟩ = some (.int .i64 n1) := d2
            have s3 : w9.drew.cell? ⟨b1, o1 + k * 3 + 2, none⟩ = some (.string t1) := d3
            have s4 : w9.drew.cell? ⟨b2, o2 + k * 3, none⟩ = some (.int .i64 k2) := e1
            have s5 : w9.drew.cell? ⟨b2, o2 + k * 3 + 1, none⟩ = some (.int .i64 n2) := e2
            have s6 : w9.drew.cell? ⟨b2, o2 + k * 3 + 2, none⟩ = some (.string t2) := e3
            have s7 : w9.drew.cell? ⟨b0, o0 + k * 2 + 1, none⟩ = some (.bool yd) := f2
            have hBe := hBd.drew
            have z1 : b1 < w9.drew.heap.size := Nat.lt_of_lt_of_le hz1 hBe.size
            have z2 : b2 < w9.drew.heap.size := Nat.lt_of_lt_of_le hz2 hBe.size
            have z0 : b0 < w9.drew.heap.size := hz9
            have hS0 : Below w9.drew.heap.size w9.drew w9.drew := Below.refl _ _
            refine wp_region_held_drew (S := fun W => Below w9.drew.heap.size w9.drew W) (by kernel_rfl) hS0 (fun _ => ?_)
            clear d1 d2 d3 e1 e2 e3 f2 hEq
            refine take_at2 (i := 0) (d := some 39) (v := ?_) rfl rfl (by kernel_rfl) (by kernel_rfl) (by kernel_rfl) (fun _ _ _ h => h) (Or.inl ⟨by rfl, ?_⟩) (by assumption) ?_
            rotate_left
            · intro W hSw
              go_simp
              try with_reducible rfl
            try simp only [Act.put, List.setIfInBounds_toArray, List.set_cons_zero, List.set_cons_succ]
            refine take_at2 (i := 1) (d := some 40) (v := ?_) rfl rfl (by kernel_rfl) (by kernel_rfl) (by kernel_rfl) (fun _ _ _ h => h) (Or.inl ⟨by rfl, ?_⟩) (by assumption) ?_
            rotate_left
            · intro W hSw
              go_simp
              try with_reducible rfl
            try simp only [Act.put, List.setIfInBounds_toArray, List.set_cons_zero, List.set_cons_succ]
            refine take_at2 (i := 2) (d := some 41) (v := ?_) rfl rfl (by kernel_rfl) (by kernel_rfl) (by kernel_rfl) (fun _ _ _ h => h) (Or.inl ⟨by rfl, ?_⟩) (by assumption) ?_
            rotate_left
            · intro W hSw
              go_simp
              try with_reducible rfl
            try simp only [Act.put, List.setIfInBounds_toArray, List.set_cons_zero, List.set_cons_succ]
            refine take_at2 (i := 3) (d := some 42) (v := ?_) rfl rfl (by kernel_rfl) (by kernel_rfl) (by kernel_rfl) (fun _ _ _ h => h) (Or.inl ⟨by rfl, ?_⟩) (by assumption) ?_
            rotate_left
            · intro W hSw
              have q0 := (Below.cell hSw (p := ⟨b1, o1 + k * 3, none⟩) z1).trans s1
              have q1 := (Below.cell hSw (p := ⟨b1, o1 + k * 3 + 1, none⟩) z1).trans s2
              have q2 := (Below.cell hSw (p := ⟨b1, o1 + k * 3 + 2, none⟩) z1).trans s3
              go_simp
              try with_reducible rfl
            try simp only [Act.put, List.setIfInBounds_toArray, List.set_cons_zero, List.set_cons_succ]
            refine take_at2 (i := 4) (d := some 43) (v := ?_) rfl rfl (by kernel_rfl) (by kernel_rfl) (by kernel_rfl) (fun _ _ _ h => h) (Or.inl ⟨by rfl, ?_⟩) (by assumption) ?_
            rotate_left
            · intro W hSw
              go_simp
              try with_reducible rfl
            try simp only [Act.put, List.setIfInBounds_toArray, List.set_cons_zero, List.set_cons_succ]
            refine take_at2 (i := 5) (d := some 44) (v := ?_) rfl rfl (by kernel_rfl) (by kernel_rfl) (by kernel_rfl) (fun _ _ _ h => h) (Or.inl ⟨by rfl, ?_⟩) (by assumption) ?_
            rotate_left
            · intro W hSw
              go_simp
              try with_reducible rfl
            try simp only [Act.put, List.setIfInBounds_toArray, List.set_cons_zero, List.set_cons_succ]
            refine take_at2 (i := 6) (d := some 45) (v := ?_) rfl rfl (by kernel_rfl) (by kernel_rfl) (by kernel_rfl) (fun _ _ _ h => h) (Or.inl ⟨by rfl, ?_⟩) (by assumption) ?_
            rotate_left
            · intro W hSw
              go_simp
              try with_reducible rfl
            try simp only [Act.put, List.setIfInBounds_toArray, List.set_cons_zero, List.set_cons_succ]
            refine take_at2 (i := 7) (d := some 46) (v := ?_) rfl rfl (by kernel_rfl) (by kernel_rfl) (by kernel_rfl) (fun _ _ _ h => h) (Or.inl ⟨by rfl, ?_⟩) (by assumption) ?_
            rotate_left
            · intro W hSw
              have q0 := (Below.cell hSw (p := ⟨b2, o2 + k * 3, none⟩) z2).trans s4
              have q1 := (Below.cell hSw (p := ⟨b2, o2 + k * 3 + 1, none⟩) z2).trans s5
              have q2 := (Below.cell hSw (p := ⟨b2, o2 + k * 3 + 2, none⟩) z2).trans s6
              go_simp
              try with_reducible rfl
            try simp only [Act.put, List.setIfInBounds_toArray, List.set_cons_zero, List.set_cons_succ]
            refine take_at2 (i := 9) (d := some 48) (v := ?_) rfl rfl (by kernel_rfl) (by kernel_rfl) (by kernel_rfl) (fun _ _ _ h => h) (Or.inl ⟨by rfl, ?_⟩) (by assumption) ?_
            rotate_left
            · intro W hSw
              go_simp
              try with_reducible rfl
            try simp only [Act.put, List.setIfInBounds_toArray, List.set_cons_zero, List.set_cons_succ]
            refine take_at2 (i := 10) (d := some 49) (v := ?_) rfl rfl (by kernel_rfl) (by kernel_rfl) (by kernel_rfl) (fun _ _ _ h => h) (Or.inl ⟨by rfl, ?_⟩) (by assumption) ?_
            rotate_left
            · intro W hSw
              go_simp
              try with_reducible rfl
            try simp only [Act.put, List.setIfInBounds_toArray, List.set_cons_zero, List.set_cons_succ]
            refine take_at2 (i := 11) (d := some 50) (v := ?_) rfl rfl (by kernel_rfl) (by kernel_rfl) (by kernel_rfl) (fun _ _ _ h => h) (Or.inl ⟨by rfl, ?_⟩) (by assumption) ?_
            rotate_left
            · intro W hSw
              go_simp
              try with_reducible rfl
            try simp only [Act.put, List.setIfInBounds_toArray, List.set_cons_zero, List.set_cons_succ]
            refine take_at2 (i := 12) (d := some 51) (v := ?_) rfl rfl (by kernel_rfl) (by kernel_rfl) (by kernel_rfl) (fun _ _ _ h => h) (Or.inl ⟨by rfl, ?_⟩) (by assumption) ?_
            rotate_left
            · intro W hSw
              go_simp
              try with_reducible rfl
            try simp only [Act.put, List.setIfInBounds_toArray, List.set_cons_zero, List.set_cons_succ]
            refine take_at2 (i := 13) (d := some 52) (v := ?_) rfl rfl (by kernel_rfl) (by kernel_rfl) (by kernel_rfl) (fun _ _ _ h => h) (Or.inl ⟨by rfl, ?_⟩) (by assumption) ?_
            rotate_left
            · intro W hSw
              have q0 := (Below.cell hSw (p := ⟨b0, o0 + k * 2 + 1, none⟩) z0).trans s7
              go_simp
              try with_reducible rfl
            try simp only [Act.put, List.setIfInBounds_toArray, List.set_cons_zero, List.set_cons_succ]
            refine wpAnyH_ready (rs := [8]) (by kernel_rfl) (by simp) ?_
            refine AllReadyH.cons rfl (fun K hK => ?_) AllReadyH.nil
            go_simp
            refine (HL.out _).mono ?_
            rintro e w10 ⟨rfl, hb10⟩
            have hS1 : Below w9.drew.heap.size w9.drew w10 := hb10
            refine hK.out _ _ hS1 (fun _ => ?_)
            clear hK K
            try simp only [Act.put, List.setIfInBounds_toArray, List.set_cons_zero, List.set_cons_succ]
            refine take_at2 (i := 14) (d := some 53) (v := ?_) rfl rfl (by kernel_rfl) (by kernel_rfl) (by kernel_rfl) (fun _ _ _ h => h) (Or.inl ⟨by rfl, ?_⟩) (by assumption) ?_
            rotate_left
            · intro W hSw
              go_simp
              try with_reducible rfl
            try simp only [Act.put, List.setIfInBounds_toArray, List.set_cons_zero, List.set_cons_succ]
            refine wpAnyH_done (by kernel_rfl) ?_ _
            cases o <;> cases yd <;>
              (go_wp2_with fail
               go_ret
               exact ⟨ret_int HE'.out.symm, hBe.trans (hb10.mono hBe.size)⟩)
          · have HE' : Hid (cmpR s a b = cmpR (s.drop (k + 1)) (a.drop (k + 1)) (b.drop (k + 1))) := Lib.hid (he.trans (G1.out hsm))
            have hee := (Fd.same_iff _ _).1 hsm
            injection hee with e1' e2' e3'
            subst e1' e2' e3'
            clear he HE G1 G2 hsm
            go_wp2_with fail
            refine wp_region_still_tail 8 (by kernel_rfl) (by kernel_rfl) ?_
            simp only [List.take_succ_cons, List.take_zero, List.drop_succ_cons, List.drop_zero]
            change wpStill _ _ wr.drew (fun a' => wpList _ _ _ _ a' wr.drew) _ _
            generalize wr.drew = w9 at *
            repeat still_step
            refine wpStill_nil ?_
            go_wp2_with fail
            exact ⟨⟨k + 1, hka, hkb, by go_num, hBd, HE'⟩, by simp [intOf]; omega⟩
        · have he := HE.out
          rw [cmpR_stop (by omega) (by omega) (by omega)] at he
          have HE' : Hid (cmpR s a b = if a.length < b.length then -1 else if b.length < a.length then 1 else 0) := Lib.hid (by rw [he]; unfold cmpI; norm_cast)
          clear he HE
          rcases Nat.lt_trichotomy a.length b.length with hab | hab | hab
          · have t1 : k = a.length := by omega
            subst t1
            have HR : Hid (cmpR s a b = -1) := Lib.hid (by rw [HE'.out, if_pos hab])
            clear HE' hlt
            go_wp2_with fail
            go_ret
            exact ⟨ret_int HR.out.symm, hB⟩
          · have t1 : k = a.length := by omega
            have HR : Hid (cmpR s a b = 0) := Lib.hid (by rw [HE'.out, if_neg (by omega), if_neg (by omega)])
            clear HE' hlt
            go_wp2_with fail
            go_ret
            exact ⟨ret_int HR.out.symm, hB⟩
          · have t1 : k = b.length := by omega
            have t2 : ¬ ((k : Int) < (b.length : Int)) := by omega
            have t3 : (k : Int) < (a.length : Int) := by omega
            have HR : Hid (cmpR s a b = 1) := Lib.hid (by rw [HE'.out, if_neg (by omega), if_pos hab])
            clear HE' hlt
            go_wp2_with fail
            go_ret
            exact ⟨ret_int HR.out.symm, hB⟩
end Go.Proofs.YtlnmpiigmedgkaaDoor
