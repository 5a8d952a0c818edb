/-
  decodeField and Decode of package composite. Conditions: the arguments can be read.
-/
import Derived.Test.YtlnmpiigmedgkaaDoorKcF
namespace Go.Proofs.YtlnmpiigmedgkaaDoor
open Go.RowKit

theorem fdV_shape (r : Option (Fd × Nat)) : ∃ (f : Fd) (n : Nat), fdV r = .tuple #[.agg #[.int .i64 f.kind, .int .i64 f.num, .string f.text], .int .i64 (n : Int)] := by
  rcases r with _ | ⟨f, n⟩
  · exact ⟨Fd.zero, 0, rfl⟩
  · exact ⟨f, n, rfl⟩
theorem decFd_cons (kind : Int) (c : UInt8) (r : List UInt8) : decFd kind (c :: r) = if c = 1 then some (Fd.zero, 1) else if c = 2 ∧ kind = 1 then decI (c :: r) else if c = 3 ∧ kind = 2 then decX (c :: r) else none := by
  show (if c = 1 then _ else _) = _
  split
  · rfl
  · split
    · simp [decI]
    · rfl
set_option maxRecDepth 100000 in
set_option maxHeartbeats 3200000 in
theorem decodeField_any (kind : Int) (A : Option Addr) (l : List UInt8) (c : Nat) (w : World) (hl : Bys w w.heap.size A l) (hc : l.length ≤ c) (hn : l.length ≤ 1000000000) :
    Calls Tryd.prog 76 #[.int .i64 kind, .slice A l.length c] w (FdP (decFd kind l) w) := by
  have hba := (Below.refl w.heap.size w).alloc (Nat.le_refl _) (.cells #[.int .i64 0, .int .i64 0, .string ⟨#[]⟩] 98)
  have hP0 := Has.new w 98 #[.int .i64 0, .int .i64 0, .string ⟨#[]⟩]
  have hlz : l.length = 0 ∨ 0 < l.length := by omega
  rcases hlz with h0 | h0
  · have hl0 : l = [] := List.eq_nil_of_length_eq_zero h0
    subst hl0
    have HR := Lib.hid (show decFd kind [] = none from rfl)
    go_enter Tryd.func76, Tryd.ntmps76
    go_wp2_with fail
    refine bodyPost_ret (v := .tuple #[.agg #[.int .i64 0, .int .i64 0, .string ⟨#[]⟩], .int .i64 0]) (by simp [results, Tryd.results76, go_sem]) rfl ⟨rfl, (Below.refl _ _).alloc (Nat.le_refl _) _⟩
  · obtain ⟨x, r, hxr⟩ : ∃ x r, l = x :: r := by
      rcases l with _ | ⟨x, r⟩
      · simp at h0
      · exact ⟨x, r, rfl⟩
    have hd := decFd_cons kind x r
    rw [← hxr] at hd
    obtain ⟨b, o, rfl, hb, hcell⟩ := hl (by intro e; rw [e] at h0; simp at h0)
    have hx := (hba.cell (p := ⟨b, o, none⟩) hb).trans (hcell 0 h0)
    have hx0 : l[0] = x := by simp [hxr]
    rw [hx0] at hx
    have hx8 := x.toNat_lt
    have i0 : (0 : Int) < (l.length : Int) := by omega
    have HI := Lib.hid (decodeInt_any (some ⟨b, o, none⟩) l c (w.alloc (.cells #[.int .i64 0, .int .i64 0, .string ⟨#[]⟩] 98)) ((hl.below hba).more hba.size) hc)
    have HX := Lib.hid (decodeText_any (some ⟨b, o, none⟩) l c (w.alloc (.cells #[.int .i64 0, .int .i64 0, .string ⟨#[]⟩] 98)) ((hl.below hba).more hba.size) hn)
    clear hcell hl hx0 hxr
    by_cases h1 : x = 1
    · have t1 : ((x.toNat : Int) == 1) = true := (u8_int x 1 (by omega)).2 h1
      rw [if_pos h1] at hd
      rw [hd]
      clear hd h1 HI HX
      go_enter Tryd.func76, Tryd.ntmps76
      go_wp2_with fail
      refine bodyPost_ret (v := .tuple #[.agg #[.int .i64 0, .int .i64 0, .string ⟨#[]⟩], .int .i64 1]) (by simp [results, Tryd.results76, go_sem]) rfl ⟨rfl, (Below.refl _ _).alloc (Nat.le_refl _) _⟩
    · have t1 : ((x.toNat : Int) == 1) = false := by rw [← Bool.not_eq_true]; exact fun h => h1 ((u8_int x 1 (by omega)).1 h)
      rw [if_neg h1] at hd
      by_cases h2 : x = 2 ∧ kind = 1
      · obtain ⟨h2, rfl⟩ := h2
        have t2 : ((x.toNat : Int) == 2) = true := (u8_int x 2 (by omega)).2 h2
        rw [if_pos ⟨h2, rfl⟩] at hd
        rw [hd]
        obtain ⟨f, n, hfn⟩ := fdV_shape (decI l)
        have HF := Lib.hid hfn
        clear hd h1 h2 HX hfn
        go_enter Tryd.func76, Tryd.ntmps76
        go_wp2_with fail
        refine (HI.out).mono ?_
        rintro e w2 ⟨he, hb2⟩
        rw [HF.out] at he
        subst he
        have hP := hP0.below hb2
        have hBw : Below w.heap.size w w2 := hba.trans (hb2.mono hba.size)
        have p0 : w2.cell? ⟨w.heap.size, 0, none⟩ = some (.int .i64 0) := hP.cell 0
        have p1 : w2.cell? ⟨w.heap.size, 1, none⟩ = some (.int .i64 0) := hP.cell 1
        have p2 : w2.cell? ⟨w.heap.size, 2, none⟩ = some (.string ⟨#[]⟩) := hP.cell 2
        have pf : ∀ o, w2.frozen? ⟨w.heap.size, o, none⟩ = false := fun o => hP.frozen o
        clear HI hba hP0 hb2 hx hP
        go_wp2_with fail
        refine bodyPost_ret (v := .tuple #[.agg #[.int .i64 f.kind, .int .i64 f.num, .string f.text], .int .i64 (n : Int)]) (by simp [results, Tryd.results76, go_sem, *]) rfl ⟨by rw [HF.out], ((hBw.setCell (p := ⟨w.heap.size, 0, none⟩) (Nat.le_refl _) _).setCell (p := ⟨w.heap.size, 1, none⟩) (Nat.le_refl _) _).setCell (p := ⟨w.heap.size, 2, none⟩) (Nat.le_refl _) _⟩
      · rw [if_neg h2] at hd
        have t2 : ((x.toNat : Int) == 2) = false ∨ ((x.toNat : Int) == 2) = true ∧ (kind == 1) = false := by
          by_cases hk : kind = 1
          · left
            rw [← Bool.not_eq_true]
            exact fun h => h2 ⟨(u8_int x 2 (by omega)).1 h, hk⟩
          · cases hh : ((x.toNat : Int) == 2)
            · exact .inl rfl
            · exact .inr ⟨rfl, by simpa using hk⟩
        by_cases h3 : x = 3 ∧ kind = 2
        · obtain ⟨h3, rfl⟩ := h3
          have t3 : ((x.toNat : Int) == 3) = true := (u8_int x 3 (by omega)).2 h3
          have t2' : ((x.toNat : Int) == 2) = false := by rw [h3]; rfl
          rw [if_pos ⟨h3, rfl⟩] at hd
          rw [hd]
          obtain ⟨f, n, hfn⟩ := fdV_shape (decX l)
          have HF := Lib.hid hfn
          clear hd h1 h2 h3 HI hfn t2
          go_enter Tryd.func76, Tryd.ntmps76
          go_wp2_with fail
          refine (HX.out).mono ?_
          rintro e w2 ⟨he, hb2⟩
          rw [HF.out] at he
          subst he
          have hP := hP0.below hb2
          have hBw : Below w.heap.size w w2 := hba.trans (hb2.mono hba.size)
          have p0 : w2.cell? ⟨w.heap.size, 0, none⟩ = some (.int .i64 0) := hP.cell 0
          have p1 : w2.cell? ⟨w.heap.size, 1, none⟩ = some (.int .i64 0) := hP.cell 1
          have p2 : w2.cell? ⟨w.heap.size, 2, none⟩ = some (.string ⟨#[]⟩) := hP.cell 2
          have pf : ∀ o, w2.frozen? ⟨w.heap.size, o, none⟩ = false := fun o => hP.frozen o
          clear HX hba hP0 hb2 hx hP
          go_wp2_with fail
          refine bodyPost_ret (v := .tuple #[.agg #[.int .i64 f.kind, .int .i64 f.num, .string f.text], .int .i64 (n : Int)]) (by simp [results, Tryd.results76, go_sem, *]) rfl ⟨by rw [HF.out], ((hBw.setCell (p := ⟨w.heap.size, 0, none⟩) (Nat.le_refl _) _).setCell (p := ⟨w.heap.size, 1, none⟩) (Nat.le_refl _) _).setCell (p := ⟨w.heap.size, 2, none⟩) (Nat.le_refl _) _⟩
        · rw [if_neg h3] at hd
          rw [hd]
          have t3 : ((x.toNat : Int) == 3) = false ∨ ((x.toNat : Int) == 3) = true ∧ (kind == 2) = false := by
            by_cases hk : kind = 2
            · left
              rw [← Bool.not_eq_true]
              exact fun h => h3 ⟨(u8_int x 3 (by omega)).1 h, hk⟩
            · cases hh : ((x.toNat : Int) == 3)
              · exact .inl rfl
              · exact .inr ⟨rfl, by simpa using hk⟩
          clear hd h1 h2 h3 HI HX
          rcases t2 with t2 | ⟨t2, t2'⟩ <;> rcases t3 with t3 | ⟨t3, t3'⟩
          all_goals
            go_enter Tryd.func76, Tryd.ntmps76
            go_wp2_with fail
          all_goals
            refine bodyPost_ret (v := .tuple #[.agg #[.int .i64 0, .int .i64 0, .string ⟨#[]⟩], .int .i64 0]) (by simp [results, Tryd.results76, go_sem]) rfl ⟨rfl, (Below.refl _ _).alloc (Nat.le_refl _) _⟩
end Go.Proofs.YtlnmpiigmedgkaaDoor
