/-
  The reference of chapter 2: less, and Prefix. Conditions: the arguments can be read.
-/
import Derived.Test.YtlnmpiigmedgkaaDoorKrE
import Derived.Test.YtlnmpiigmedgkaaDoorKcQ
import Derived.Test.YtlnmpiigmedgkaaDoorKtI
namespace Go.Proofs.YtlnmpiigmedgkaaDoor
open Go.RowKit

/-- What less answers. -/
def lessF (a b : Fd) : Bool := if a.kind = b.kind then (decide (a.num < b.num) || kl a.text b.text) else a.kind == 0
theorem size0 {t u : ByteArray} (h : t.size = 0) (k : u.size = 0) : t = u := by
  obtain ⟨⟨t⟩⟩ := t
  obtain ⟨⟨u⟩⟩ := u
  have h1 : t.length = 0 := h
  have h2 : u.length = 0 := k
  rw [List.eq_nil_of_length_eq_zero h1, List.eq_nil_of_length_eq_zero h2]
theorem cmpT_self (t : ByteArray) : cmpT t t = 0 := by simp [cmpT, kl_irrefl]
theorem cmpT_ne {t u : ByteArray} (h : t ≠ u) : cmpT t u = if kl t u then -1 else 1 := by
  unfold cmpT
  cases h1 : kl t u
  · cases h2 : kl u t
    · exact absurd (kl_tri h1 h2) h
    · rfl
  · rfl
theorem cmpF_same {a b : Fd} (h : a.same b = true) : cmpF a b = 0 := by
  rw [(Fd.same_iff a b).1 h]
  simp [cmpF, cmpI, cmpT_self]
theorem cmpF_less {a b : Fd} {y : Col} (ha : a.fits y = true) (hb : b.fits y = true) (h : a.same b = false) : cmpF a b = if lessF a b then -1 else 1 := by
  have hne : a ≠ b := fun e => by
    rw [(Fd.same_iff a b).2 e] at h
    cases h
  obtain ⟨k1, n1, t1⟩ := a
  obtain ⟨k2, n2, t2⟩ := b
  obtain ⟨yk, yd⟩ := y
  unfold Fd.fits at ha hb
  unfold cmpF lessF
  simp only at ha hb ⊢
  by_cases hk : k1 = k2
  · subst hk
    have c0 : cmpI k1 k1 = 0 := by simp [cmpI]
    rw [c0, if_neg (by simp), if_pos rfl]
    by_cases h2 : k1 = 2
    · subst h2
      simp at ha hb
      obtain ⟨⟨_, rfl⟩, _⟩ := ha
      obtain ⟨⟨_, rfl⟩, _⟩ := hb
      have ht : t1 ≠ t2 := fun e => hne (by rw [e])
      rw [cmpT_ne ht]
      simp [cmpI]
    · have ht : t1 = t2 := by
        by_cases h0 : k1 = 0
        · simp [h0] at ha hb
          exact ha.2.trans hb.2.symm
        · by_cases h1 : k1 = 1
          · simp [h1] at ha hb
            exact ha.2.trans hb.2.symm
          · simp [h0, h1, h2] at ha
      subst ht
      have hn : n1 ≠ n2 := fun e => hne (by rw [e])
      rw [kl_irrefl, Bool.or_false]
      unfold cmpI
      by_cases hlt : n1 < n2
      · simp [hlt]
      · have : n2 < n1 := by omega
        simp [hlt, this]
  · rw [if_neg hk]
    have hI : cmpI k1 k2 ≠ 0 := by unfold cmpI; split <;> (try split) <;> omega
    rw [if_pos hI]
    by_cases h0 : k1 = 0
    · subst h0
      have : 0 < k2 := by
        by_cases q1 : k2 = 1
        · omega
        · by_cases q2 : k2 = 2
          · omega
          · simp [q1, q2, Ne.symm hk] at hb
      simp [cmpI, this]
    · have h2 : k2 = 0 := by
        by_cases q : k2 = 0
        · exact q
        · exfalso
          by_cases a1 : k1 = 1
          · subst a1
            simp at ha
            have b2 : k2 = 2 := by
              by_cases q1 : k2 = 1
              · omega
              · by_cases q2 : k2 = 2
                · exact q2
                · simp [q, q1, q2] at hb
            subst b2
            simp at hb
            omega
          · by_cases a2 : k1 = 2
            · subst a2
              simp at ha
              have b2 : k2 = 1 := by
                by_cases q1 : k2 = 1
                · exact q1
                · by_cases q2 : k2 = 2
                  · omega
                  · simp [q, q1, q2] at hb
              subst b2
              simp at hb
              omega
            · simp [h0, a1, a2] at ha
      subst h2
      have : 0 < k1 := by
        by_cases a1 : k1 = 1
        · omega
        · by_cases a2 : k1 = 2
          · omega
          · simp [h0, a1, a2] at ha
      have h3 : ¬ k1 < 0 := by omega
      simp [cmpI, this, h3, h0]

set_option maxRecDepth 100000 in
set_option maxHeartbeats 1600000 in
theorem rless_any (a b : Fd) (w : World) : Calls Tryd.prog 117 #[a.val, b.val] w (BoolB (lessF a b) w) := by
  obtain ⟨k1, n1, t1⟩ := a
  obtain ⟨k2, n2, t2⟩ := b
  have hb : Below w.heap.size w ((w.alloc (.cells #[.int .i64 k1, .int .i64 n1, .string t1] 98)).alloc (.cells #[.int .i64 k2, .int .i64 n2, .string t2] 98)) := ((Below.refl _ _).alloc (Nat.le_refl _) _).alloc (by simp) _
  by_cases hk : k1 = k2
  · subst hk
    have hr : lessF ⟨k1, n1, t1⟩ ⟨k1, n2, t2⟩ = (decide (n1 < n2) || kl t1 t2) := by simp [lessF]
    rw [hr]
    go_enter Tryd.func117, Tryd.ntmps117
    go_wp2_with fail
    all_goals
      go_ret
      refine ⟨ret_bool ?_, hb⟩
      simp_all [kl]
  · have hr : lessF ⟨k1, n1, t1⟩ ⟨k2, n2, t2⟩ = (k1 == 0) := by simp [lessF, hk]
    rw [hr]
    have e1 : (k1 != k2) = true := by simpa using hk
    go_enter Tryd.func117, Tryd.ntmps117
    go_wp2_with fail
    all_goals
      go_ret
      exact ⟨rfl, hb⟩
set_option maxRecDepth 100000 in
set_option maxHeartbeats 1600000 in
theorem rprefix_any (A1 A2 : Option Addr) (s : List Col) (l : List Fd) (c1 c2 : Nat) (w : World) (hs : Cols w w.heap.size A1 s) (hl : Fds w w.heap.size A2 l) (hw : ∀ i (h : i < l.length), l[i].wide) :
    Calls Tryd.prog 66 #[.slice A1 s.length c1, .slice A2 l.length c2] w (PreB (preV s l) w) := by
  have hb0 := (Below.refl w.heap.size w).alloc (Nat.le_refl _) (.cells #[.string ByteArray.empty, .bool false, .string ByteArray.empty, .bool false] 51)
  have E := Lib.hid (rencode_any A1 A2 s l c1 c2 _ ((hs.below hb0).more hb0.size) ((hl.below hb0).more hb0.size) hw)
  have HV := Lib.hid (show preV s l = if (encV s l).2 = 0 then (Rg.pre (encV s l).1, 0) else (Rg.zero, (encV s l).2) from rfl)
  have hN := Has.new w 51 #[.string ByteArray.empty, .bool false, .string ByteArray.empty, .bool false]
  generalize preV s l = V at *
  generalize encV s l = X at *
  obtain ⟨x, xe⟩ := X
  by_cases h0 : xe = 0
  · subst h0
    have hV : V = (Rg.pre x, 0) := by rw [HV.out]; rfl
    subst hV
    clear HV
    go_enter Tryd.func66, Tryd.ntmps66
    go_wp2_with fail
    refine (E.out).mono ?_
    rintro e w1 ⟨rfl, hb1⟩
    have hN1 := hN.below hb1
    clear E
    go_wp2_with fail
    refine (pre_ref x w1).mono ?_
    rintro e w2 ⟨he, hb2⟩
    have hN2 := hN1.below hb2
    generalize Rg.pre x = r at *
    obtain ⟨⟨k1, t1⟩, ⟨k2, t2⟩⟩ := r
    subst he
    have c0 := hN2.cell 0
    have c1 := hN2.cell 1
    have c2 := hN2.cell 2
    have c3 := hN2.cell 3
    have f0 : ∀ o, w2.frozen? ⟨w.heap.size, o, none⟩ = false := fun o => hN2.frozen o
    have hbw : Below w.heap.size w w2 := hb0.trans ((hb1.trans (hb2.mono hb1.size)).mono hb0.size)
    clear hb1 hb2 hb0 hN hN1 hN2 hs hl
    go_wp2_with fail
    refine bodyPost_ret (v := .tuple #[.agg #[.string k1, .bool t1, .string k2, .bool t2], .int .i64 0]) (by simp [results, Tryd.results66, go_sem, *]) rfl ⟨rfl, (((hbw.setCell (p := ⟨w.heap.size, 0, none⟩) (Nat.le_refl _) _).setCell (p := ⟨w.heap.size, 1, none⟩) (Nat.le_refl _) _).setCell (p := ⟨w.heap.size, 2, none⟩) (Nat.le_refl _) _).setCell (p := ⟨w.heap.size, 3, none⟩) (Nat.le_refl _) _⟩
  · have hV : V = (Rg.zero, xe) := by rw [HV.out]; simp [h0]
    subst hV
    clear HV
    have hx : (xe == 0) = false := by simpa using h0
    clear h0
    go_enter Tryd.func66, Tryd.ntmps66
    go_wp2_with fail
    refine (E.out).mono ?_
    rintro e w1 ⟨rfl, hb1⟩
    have hN1 := hN.below hb1
    have c0 := hN1.cell 0
    have c1 := hN1.cell 1
    have c2 := hN1.cell 2
    have c3 := hN1.cell 3
    have f0 : ∀ o, w1.frozen? ⟨w.heap.size, o, none⟩ = false := fun o => hN1.frozen o
    have hbw : Below w.heap.size w w1 := hb0.trans (hb1.mono hb0.size)
    clear E hb1 hb0 hN hN1 hs hl
    go_wp2_with fail
    refine bodyPost_ret (v := .tuple #[.agg #[.string ByteArray.empty, .bool false, .string ByteArray.empty, .bool false], .int .i64 xe]) (by simp [results, Tryd.results66, go_sem, *]; rfl) rfl ⟨rfl, (((hbw.setCell (p := ⟨w.heap.size, 0, none⟩) (Nat.le_refl _) _).setCell (p := ⟨w.heap.size, 1, none⟩) (Nat.le_refl _) _).setCell (p := ⟨w.heap.size, 2, none⟩) (Nat.le_refl _) _).setCell (p := ⟨w.heap.size, 3, none⟩) (Nat.le_refl _) _⟩
end Go.Proofs.YtlnmpiigmedgkaaDoor
