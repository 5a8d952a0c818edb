/-
  Steps of package locked in place: lockNext, find and decide. Conditions: the list is valid and may be changed in place.
-/
import Derived.Test.YtgmffgdhijcfcaaDoorKzE
import Derived.Deep.QuietTactic
namespace Go.Proofs.YtgmffgdhijcfcaaDoor
open Go.RowKit Go.Maps
namespace Lk

theorem nat_of {z : Int} {n : Nat} (h : 0 ≤ z ∧ z < n) : ∃ k : Nat, z = (k : Int) ∧ k < n := ⟨z.toNat, by omega, by omega⟩
def lknV (l : Ls) (p r : Nat) : Option Ls := if (l.at_ r).lock ≠ 0 then none else some ((l.setC r { l.at_ r with lock := (p : Int) + 1 }).setP p { l.pr p with next := (r : Int), phase := 10 })
set_option maxRecDepth 100000 in
set_option maxHeartbeats 1600000 in
theorem lockNext_any (l : Ls) (n m p c r base G1 G2 c1 c2 : Nat) (w : World) (hn : l.cs.length = n) (hm : l.ps.length = m) (h : MemL w base G1 G2 c1 c2 l) (hp : p < m) (hc : c < n) (hr : r < n) (m8 : m ≤ 8) (hxc : (l.pr p).cell = (c : Int)) (hcr : (l.at_ c).right = (r : Int)) :
    Calls Tryd.prog 74 #[.agg #[.slice (some ⟨G1, 0, none⟩) n c1, .slice (some ⟨G2, 0, none⟩) m c2], .int .i64 (p : Int)] w (OptP (lknV l p r) l base G1 G2 c1 c2 w) := by
  have HK : Hid (Chg G1 G2 w _) := Lib.hid (Chg.of ((Below.refl w.heap.size w).alloc (Nat.le_refl _) (.cells #[.slice (some ⟨G1, 0, none⟩) n c1, .slice (some ⟨G2, 0, none⟩) m c2] 35)))
  have HH := Lib.hid (h.below ((Below.refl _ _).alloc (Nat.le_refl _) (.cells #[.slice (some ⟨G1, 0, none⟩) n c1, .slice (some ⟨G2, 0, none⟩) m c2] 35)))
  have HX := Lib.hid (Has.new w 35 #[.slice (some ⟨G1, 0, none⟩) n c1, .slice (some ⟨G2, 0, none⟩) m c2])
  have hbn : G1 < w.heap.size ∧ G2 < w.heap.size := ⟨h.cs.lt, h.ps.lt⟩
  have hsz : w.heap.size < (w.alloc (.cells #[.slice (some ⟨G1, 0, none⟩) n c1, .slice (some ⟨G2, 0, none⟩) m c2] 35)).heap.size := by rw [World.size_alloc]; omega
  have HN := Lib.hid hn
  have HM := Lib.hid hm
  have p0 : (0 : Int) ≤ (p : Int) := by omega
  have p1 : (p : Int) < (m : Int) := by omega
  have q0 : (0 : Int) ≤ (c : Int) := by omega
  have q1 : (c : Int) < (n : Int) := by omega
  clear h hn hm
  go_enter Tryd.func74, Tryd.ntmps74
  go_upto_region 1 with fail
  generalize w.alloc (.cells #[.slice (some ⟨G1, 0, none⟩) n c1, .slice (some ⟨G2, 0, none⟩) m c2] 35) = W at *
  obtain ⟨B, hB⟩ : ∃ B, B = w.heap.size := ⟨_, rfl⟩
  rw [← hB] at HX hbn hsz ⊢
  clear hB
  have x0 := HX.out.cell 0
  have x1 := HX.out.cell 1
  obtain ⟨-, a2, -⟩ := HH.out.proc (i := p) (by rw [HM.out]; exact hp)
  obtain ⟨-, -, b3, -⟩ := HH.out.cell (i := c) (by rw [HN.out]; exact hc)
  rw [hxc] at a2
  rw [hcr] at b3
  go_quiet (fail)
  have hqb := below_drw (Below.refl W.heap.size W) nq
  have HHQ := Lib.hid (HH.out.below hqb)
  have HKQ := Lib.hid (HK.out.add hqb)
  have HXQ := Lib.hid (HX.out.below hqb)
  have hsq := hqb.size
  clear a2 b3 x0 x1 hqb
  generalize W.drewN nq = V at *
  have x0 := HXQ.out.cell 0
  have x1 := HXQ.out.cell 1
  have HL := Lib.hid (lock_any l n m p r base G1 G2 c1 c2 10 V HN.out HM.out HHQ.out hp hr m8)
  by_cases hl : (l.at_ r).lock = 0
  · have e1 : lokV l p r 10 = some ((l.setC r { l.at_ r with lock := (p : Int) + 1 }).setP p { l.pr p with phase := 10 }) := by unfold lokV; rw [if_neg (fun q => q hl)]
    have e2 : lknV l p r = some ((l.setC r { l.at_ r with lock := (p : Int) + 1 }).setP p { l.pr p with next := (r : Int), phase := 10 }) := by unfold lknV; rw [if_neg (fun q => q hl)]
    rw [e1] at HL
    have HE := Lib.hid e2
    clear e1 e2 hl
    go_wp2_with fail
    refine (HL.out).mono ?_
    rintro e w2 ⟨rfl, hm2, hb2⟩
    have HM2 := Lib.hid hm2
    have HB2 := Lib.hid hb2
    have HX2 := Lib.hid (hb2.has HXQ.out (by omega) (by omega))
    clear hm2 hb2 x0 x1 HXQ
    have x0 := HX2.out.cell 0
    have x1 := HX2.out.cell 1
    obtain ⟨z1, z2⟩ := HM2.out.fz
    have hp2 : p < ((some ((l.setC r { l.at_ r with lock := (p : Int) + 1 }).setP p { l.pr p with phase := 10 })).getD l).ps.length := by
      show p < (Ls.setP _ p _).ps.length
      rw [Ls.len_setP]
      show p < l.ps.length
      rw [HM.out]; exact hp
    obtain ⟨-, -, -, -, -, a6, -⟩ := HM2.out.proc hp2
    go_wp2_with fail
    clear x0 x1 z1 z2 a6
    go_ret
    have hp' : p < l.ps.length := by rw [HM.out]; exact hp
    refine ⟨by rw [HE.out]; rfl, ?_, (HKQ.out.trans HB2.out).set2 _ _⟩
    rw [HE.out]
    exact MemL.up (l := l.setC r { l.at_ r with lock := (p : Int) + 1 }) HM2.out hp' 5 (by decide) (.int .i64 (r : Int)) { l.pr p with next := (r : Int), phase := 10 } rfl
  · have e1 : lokV l p r 10 = none := by unfold lokV; rw [if_pos hl]
    have e2 : lknV l p r = none := by unfold lknV; rw [if_pos hl]
    rw [e1] at HL
    have HE := Lib.hid e2
    clear e1 e2 hl
    go_wp2_with fail
    refine (HL.out).mono ?_
    rintro e w2 ⟨rfl, hm2, hb2⟩
    have HM2 := Lib.hid hm2
    have HB2 := Lib.hid hb2
    clear hm2 hb2 x0 x1
    go_wp2_with fail
    go_ret
    exact ⟨by rw [HE.out]; rfl, by rw [HE.out]; exact HM2.out, HKQ.out.trans HB2.out⟩

theorem compare_n (l : Ls) (n c a b lo : Nat) (A : Option Addr) (w : World) (hn : l.cs.length = n) (hl : Ces w lo A l.cs) (ha : a < n) (hb : b < n) : Calls Tryd.prog 57 #[.slice A n c, .int .i64 (a : Int), .int .i64 (b : Int)] w (Quiet (.int .i64 (cmpC l a b)) w) := by
  subst hn
  exact compare_any A l c a b lo w hl ha hb
def fndV (l : Ls) (p s c : Nat) : Ls := if blw l s c = true then l.setP p { l.pr p with pred := (s : Int), succ := (l.at_ s).right } else l.setP p { l.pr p with phase := if (l.pr p).kind = 3 then 4 else 2 }
set_option maxRecDepth 100000 in
set_option maxHeartbeats 3200000 in
theorem find_any (l : Ls) (n m p s c base G1 G2 c1 c2 : Nat) (w : World) (hn : l.cs.length = n) (hm : l.ps.length = m) (h : MemL w base G1 G2 c1 c2 l) (hp : p < m) (hs : s < n) (hc : c < n) (hxs : (l.pr p).succ = (s : Int)) (hxc : (l.pr p).cell = (c : Int)) :
    Calls Tryd.prog 70 #[.slice (some ⟨G1, 0, none⟩) n c1, .pointer (some ⟨G2, p * 7, none⟩)] w (StP (fndV l p s c) base G1 G2 c1 c2 (.tuple #[]) w) := by
  have HN := Lib.hid hn
  have HM := Lib.hid hm
  have hp' : p < l.ps.length := by rw [hm]; exact hp
  have hs' : s < l.cs.length := by rw [hn]; exact hs
  have HC := Lib.hid (fun (V : World) (k : Below w.heap.size w V) => compare_n l n c1 s c base (some ⟨G1, 0, none⟩) V hn ((h.below k).cs.rd h.b1) hs hc)
  have HH := Lib.hid h
  have HF := Lib.hid (fun (V : World) (k : Below w.heap.size w V) => (⟨by have := ((h.below k).proc hp').2.2.2.2.1; rw [hxs] at this; exact this, by have := ((h.below k).proc hp').2.1; rw [hxc] at this; exact this, k⟩ : V.cell? ⟨G2, p * 7 + 4, none⟩ = some (.int .i64 (s : Int)) ∧ V.cell? ⟨G2, p * 7 + 1, none⟩ = some (.int .i64 (c : Int)) ∧ Below w.heap.size w V))
  have hS0 := HF.out w.drew (Below.refl _ _).drew
  have q0 : (0 : Int) ≤ (s : Int) := by omega
  have q1 : (s : Int) < (n : Int) := by omega
  have HXS := Lib.hid hxs
  have HXC := Lib.hid hxc
  obtain ⟨F, hF⟩ : ∃ F, F = fndV l p s c := ⟨_, rfl⟩
  have HFV := Lib.hid hF
  rw [← hF]
  clear h hn hm hF hxs hxc
  go_enter Tryd.func70, Tryd.ntmps70
  go_upto_region 1 with fail
  have x0 := hS0.1
  have x1 := hS0.2.1
  go_region_held3 (fun V => V.cell? ⟨G2, p * 7 + 4, none⟩ = some (.int .i64 (s : Int)) ∧ V.cell? ⟨G2, p * 7 + 1, none⟩ = some (.int .i64 (c : Int)) ∧ Below w.heap.size w V) (first | with_reducible exact hS7 | with_reducible exact hS0) ((go_at_call 57; refine (HC.out _ hS0.2.2).mono ?_; rintro e w7 ⟨rfl, hb7⟩; have hS7 := HF.out _ (hS0.2.2.trans (hb7.mono hS0.2.2.size))))
  have HB7 := Lib.hid hS7.2.2
  have HC7 : Hid (Chg G1 G2 w w7) := Lib.hid (Chg.of hS7.2.2)
  have HM7 := Lib.hid (HH.out.below hS7.2.2)
  clear x0 x1 hS0 hS7 hb7 HH HF HC
  obtain ⟨z1, z2⟩ := HM7.out.fz
  obtain ⟨a1, a2, a3, a4, a5, -, -⟩ := HM7.out.proc hp'
  obtain ⟨-, -, b3, -⟩ := HM7.out.cell hs'
  rw [HXS.out] at a5
  rw [HXC.out] at a2
  have hlt := cmpC_lt l s c
  cases hbl : blw l s c with
  | true =>
    rw [hbl] at hlt
    have HE : Hid (F = l.setP p { l.pr p with pred := (s : Int), succ := (l.at_ s).right }) := Lib.hid (by rw [HFV.out]; unfold fndV; rw [if_pos hbl])
    have hR := of_decide_eq_true hlt
    clear hlt hbl HFV
    generalize cmpC l s c = R at *
    go_upto_region 2 with fail
    go_region
    clear a1 a2 a3 a4 a5 b3 z1 z2
    go_end0
    refine ⟨rfl, ?_, ((HC7.out.set2 _ _).set2 _ _).drew⟩
    rw [HE.out]
    exact MemL.drew (((HM7.out.init hp').up hp' 3 (by decide) (.int .i64 (s : Int)) { l.pr p with pred := (s : Int) } rfl).up hp' 4 (by decide) (.int .i64 (l.at_ s).right) { l.pr p with pred := (s : Int), succ := (l.at_ s).right } rfl)
  | false =>
    have HE : Hid (F = l.setP p { l.pr p with phase := if (l.pr p).kind = 3 then 4 else 2 }) := Lib.hid (by rw [HFV.out]; unfold fndV; rw [if_neg (by rw [hbl]; exact Bool.false_ne_true)])
    rw [hbl] at hlt
    have hR := of_decide_eq_false hlt
    clear hlt hbl HFV
    generalize cmpC l s c = R at *
    by_cases hk : (l.pr p).kind = 3
    · rw [if_pos hk] at HE
      go_wp2_with fail
      clear a1 a2 a3 a4 a5 b3 z1 z2
      go_end0
      exact ⟨rfl, by rw [HE.out]; exact (HM7.out.init hp').up hp' 2 (by decide) (.int .i64 4) { l.pr p with phase := 4 } rfl, HC7.out.set2 _ _⟩
    · rw [if_neg hk] at HE
      go_wp2_with fail
      clear a1 a2 a3 a4 a5 b3 z1 z2
      go_end0
      exact ⟨rfl, by rw [HE.out]; exact (HM7.out.init hp').up hp' 2 (by decide) (.int .i64 2) { l.pr p with phase := 2 } rfl, HC7.out.set2 _ _⟩
end Lk
end Go.Proofs.YtgmffgdhijcfcaaDoor
