/-
  index and step of the reference of chapter 11: one step in place, whatever the process does. Conditions: the list is valid and may be changed in place.
-/
import Derived.Test.YtmhbloefmknikaaGreatDoorMbD
import Derived.Test.YtmhbloefmknikaaGreatDoorMbE
namespace Go.Proofs.YtmhbloefmknikaaGreatDoor
open Go.RowKit Go.Maps
namespace Lk
theorem ridx_any (i n : Int) (w : World) : Calls Tryz.prog 133 #[.int .i64 i, .int .i64 n] w (BoolQ (0 ≤ i ∧ i < n) w) := by
  by_cases h1 : 0 ≤ i
  · have h1' : i ≥ 0 := h1
    by_cases h2 : i < n
    · go_enter Tryz.func133, Tryz.ntmps133
      go_wp2_with fail
      go_ret
      exact ⟨true, rfl, by simp; omega, rfl⟩
    · go_enter Tryz.func133, Tryz.ntmps133
      go_wp2_with fail
      go_ret
      exact ⟨false, rfl, by simp; omega, rfl⟩
  · have h1' : ¬ i ≥ 0 := h1
    go_enter Tryz.func133, Tryz.ntmps133
    go_wp2_with fail
    go_ret
    exact ⟨false, rfl, by simp; omega, rfl⟩
theorem rstep_any (l : Ls) (n m p base G1 G2 c1 c2 : Nat) (w : World) (hn : l.cs.length = n) (hm : l.ps.length = m) (h : MemL w base G1 G2 c1 c2 l) (v : Vld l) (hp : p < m) (ha : (l.pr p).phase ≠ 0 ∧ (l.pr p).phase ≠ 18) :
    Calls Tryz.prog 58 #[.agg #[.slice (some ⟨G1, 0, none⟩) n c1, .slice (some ⟨G2, 0, none⟩) m c2], .int .i64 (p : Int)] w (OptP (stepV l p) l base G1 G2 c1 c2 w) := by
  have hp' : p < l.ps.length := by omega
  have n2 := v.n2
  have n66 : n ≤ 66 := by rw [← hn]; exact v.n66
  have m8 : m ≤ 8 := by rw [← hm]; exact v.m8
  obtain ⟨d, hxd, hd⟩ := nat_of (v.pd p hp')
  obtain ⟨s, hxs, hs⟩ := nat_of (v.sc p hp')
  obtain ⟨c, hxc, hc⟩ := nat_of (v.ce p hp')
  obtain ⟨x, hxx, hx⟩ := nat_of (v.nx p hp')
  rw [hn] at hd hs hc hx
  have hph := v.ph p hp'
  have hcs : (l.pr p).phase = 1 ∨ (l.pr p).phase = 2 ∨ (l.pr p).phase = 3 ∨ (l.pr p).phase = 4 ∨ (l.pr p).phase = 5 ∨ (l.pr p).phase = 6 ∨ (l.pr p).phase = 7 ∨ (l.pr p).phase = 8 ∨ (l.pr p).phase = 9 ∨ (l.pr p).phase = 10 ∨ (l.pr p).phase = 11 ∨ (l.pr p).phase = 12 ∨ (l.pr p).phase = 13 := by omega
  rcases hcs with q | q | q | q | q | q | q | q | q | q | q | q | q
  · exact rstep_1 l n m p d s c x base G1 G2 c1 c2 w hn hm h hp hd hs hc hx m8 n66 hxd hxs hxc hxx q
  · exact rstep_2 l n m p d s c x base G1 G2 c1 c2 w hn hm h hp hd hs hc hx m8 n66 hxd hxs hxc hxx q
  · exact rstep_3 l n m p d s c x base G1 G2 c1 c2 w hn hm h hp hd hs hc hx m8 n66 hxd hxs hxc hxx q
  · exact rstep_4 l n m p d s c x base G1 G2 c1 c2 w hn hm h hp hd hs hc hx m8 n66 hxd hxs hxc hxx q
  · exact rstep_5 l n m p d s c x base G1 G2 c1 c2 (by omega) w hn hm h hp hd hs hc hx m8 n66 hxd hxs hxc hxx q
  · exact rstep_6 l n m p d s c x base G1 G2 c1 c2 w hn hm h hp hd hs hc hx m8 n66 hxd hxs hxc hxx q
  · exact rstep_7 l n m p d s c x base G1 G2 c1 c2 w hn hm h hp hd hs hc hx m8 n66 hxd hxs hxc hxx q
  · exact rstep_8 l n m p d s c x base G1 G2 c1 c2 w hn hm h hp hd hs hc hx m8 n66 hxd hxs hxc hxx q
  · obtain ⟨r, hcr, hr⟩ := nat_of (v.rg c (by omega))
    rw [hn] at hr
    exact rstep_9 l n m p d s c x base G1 G2 c1 c2 r hr hcr w hn hm h hp hd hs hc hx m8 n66 hxd hxs hxc hxx q
  · exact rstep_10 l n m p d s c x base G1 G2 c1 c2 w hn hm h hp hd hs hc hx m8 n66 hxd hxs hxc hxx q
  · exact rstep_11 l n m p d s c x base G1 G2 c1 c2 w hn hm h hp hd hs hc hx m8 n66 hxd hxs hxc hxx q
  · exact rstep_12 l n m p d s c x base G1 G2 c1 c2 w hn hm h hp hd hs hc hx m8 n66 hxd hxs hxc hxx q
  · exact rstep_13 l n m p d s c x base G1 G2 c1 c2 w hn hm h hp hd hs hc hx m8 n66 hxd hxs hxc hxx q
end Lk
end Go.Proofs.YtmhbloefmknikaaGreatDoor
