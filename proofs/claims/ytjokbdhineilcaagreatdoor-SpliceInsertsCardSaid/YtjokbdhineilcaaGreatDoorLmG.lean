/-
  Build of package ideal: the links of all nodes. Condition: the nodes can be read.
  The example of chapter 6: what the package's functions answer. No condition.
  Same of the reference of chapter 6. Condition: the links can be read.
-/
import Derived.Test.YtjokbdhineilcaaGreatDoorLmD
import Derived.Test.YtjokbdhineilcaaGreatDoorLjR
import Derived.Deep.DeepCutAuto
import Derived.Deep.CutBlock
import Derived.Test.YtjokbdhineilcaaGreatDoorLdG
import Derived.StillTailTactics
namespace Go.Proofs.YtjokbdhineilcaaGreatDoor
section
open Go.RowKit

theorem madeK (n : Nat) : madeCells (Value.cells (.agg #[.int .i64 0, .int .i64 0])) (n * 2) = (flatK (List.replicate n zK)).toArray := by
  rw [← made_links n]
theorem madeP (n : Nat) : madeCells (Value.cells (.agg #[.int .i64 0, .slice none 0 0])) (n * 2) = (flatP (List.replicate n zP)).toArray := by
  rw [← made_linked n]
theorem make_links (W : World) (n : Nat) (hn : n ≤ 100000) : (Instr.makeSlice 54 (.int .i64 (n : Int)) (.int .i64 (n : Int))).run Tryz.prog W = .ok (.slice (some ⟨W.heap.size, 0, none⟩) n n) (W.alloc (.cells (flatK (List.replicate n zK)).toArray 53)) := by
  obtain ⟨i, h1, h2, h3, h4⟩ := infoK_parts
  have := Go.run_makeSlice W 54 53 i (.agg #[.int .i64 0, .int .i64 0]) Tryz.underlying54 h1 h2 .i64 .i64 (n : Int) (n : Int) (by omega) (Int.le_refl _) (by rw [h3, Int.toNat_natCast]; omega) (by rw [h4]; omega) (by omega)
  rw [h3, Int.toNat_natCast, madeK] at this
  exact this
theorem make_linked (W : World) (n : Nat) (hn : n ≤ 100000) : (Instr.makeSlice 31 (.int .i64 (n : Int)) (.int .i64 (n : Int))).run Tryz.prog W = .ok (.slice (some ⟨W.heap.size, 0, none⟩) n n) (W.alloc (.cells (flatP (List.replicate n zP)).toArray 56)) := by
  obtain ⟨i, h1, h2, h3, h4⟩ := infoP_parts
  have := Go.run_makeSlice W 31 56 i (.agg #[.int .i64 0, .slice none 0 0]) Tryz.underlying31 h1 h2 .i64 .i64 (n : Int) (n : Int) (by omega) (Int.le_refl _) (by rw [h3, Int.toNat_natCast]; omega) (by rw [h4]; omega) (by omega)
  rw [h3, Int.toNat_natCast, madeP] at this
  exact this
/-- The links while they are written: levels below k are done, and at level k the nodes before j. -/
def rowsKJ (s : List Nd) (M k j : Nat) : List Ld := s.mapIdx fun i x => ⟨x.id, (List.range M).map fun (t : Nat) => if t < k ∨ (t = k ∧ i < j) then lnk s (t : Int) x else zK⟩
theorem rows_len (s : List Nd) (M k j : Nat) : (rowsKJ s M k j).length = s.length := by simp [rowsKJ]
theorem rows_at {s : List Nd} {M k j i : Nat} (h : i < (rowsKJ s M k j).length) : (rowsKJ s M k j)[i] = ⟨(s[i]'(by rwa [rows_len] at h)).id, (List.range M).map fun (t : Nat) => if t < k ∨ (t = k ∧ i < j) then lnk s (t : Int) (s[i]'(by rwa [rows_len] at h)) else zK⟩ := by simp [rowsKJ]
theorem rows_zero (s : List Nd) (M : Nat) : rowsKJ s M 0 0 = s.map fun x => ⟨x.id, List.replicate M zK⟩ := by
  refine List.ext_getElem (by simp [rowsKJ]) fun i h1 h2 => ?_
  rw [rows_at]
  simp only [List.getElem_map, Nat.not_lt_zero, and_false, or_false, if_false]
  congr 1
  exact List.ext_getElem (by simp) fun _ _ _ => by simp
theorem rows_next (s : List Nd) (M k : Nat) : rowsKJ s M k s.length = rowsKJ s M (k + 1) 0 := by
  refine List.ext_getElem (by simp [rowsKJ]) fun i h1 h2 => ?_
  have hi : i < s.length := by rwa [rows_len] at h1
  rw [rows_at, rows_at]
  congr 1
  refine List.map_congr_left fun t _ => ?_
  have e : (t < k ∨ (t = k ∧ i < s.length)) ↔ (t < k + 1 ∨ (t = k + 1 ∧ i < 0)) := by omega
  by_cases h : t < k ∨ (t = k ∧ i < s.length)
  · rw [if_pos h, if_pos (e.1 h)]
  · rw [if_neg h, if_neg (fun q => h (e.2 q))]
theorem rows_fin (s : List Nd) (M : Nat) : rowsKJ s M M 0 = s.map fun x => ⟨x.id, (List.range M).map fun (t : Nat) => lnk s (t : Int) x⟩ := by
  refine List.ext_getElem (by simp [rowsKJ]) fun i h1 h2 => ?_
  rw [rows_at]
  simp only [List.getElem_map]
  congr 1
  refine List.map_congr_left fun t ht => ?_
  rw [if_pos (.inl (by simpa using ht))]
theorem rows_set {s : List Nd} {M k j : Nat} (hj : j < (rowsKJ s M k j).length) (hk : k < M) : (rowsKJ s M k j).set j ⟨(rowsKJ s M k j)[j].id, (rowsKJ s M k j)[j].levels.set k (lnk s (k : Int) (s[j]'(by rwa [rows_len] at hj)))⟩ = rowsKJ s M k (j + 1) := by
  refine List.ext_getElem (by simp [rowsKJ]) fun i h1 h2 => ?_
  have hi : i < s.length := by rwa [rows_len] at h2
  rw [List.getElem_set, rows_at h2]
  by_cases e : j = i
  · subst e
    rw [if_pos rfl, rows_at hj]
    simp only
    congr 1
    refine List.ext_getElem (by simp) fun t g1 g2 => ?_
    have ht : t < M := by simpa using g2
    rw [List.getElem_set]
    simp only [List.getElem_map, List.getElem_range]
    by_cases e2 : k = t
    · subst e2
      rw [if_pos rfl, if_pos (.inr ⟨rfl, Nat.lt_succ_self _⟩)]
    · rw [if_neg e2]
      have e3 : (t < k ∨ (t = k ∧ j < j)) ↔ (t < k ∨ (t = k ∧ j < j + 1)) := by omega
      by_cases h : t < k ∨ (t = k ∧ j < j)
      · rw [if_pos h, if_pos (e3.1 h)]
      · rw [if_neg h, if_neg (fun q => h (e3.2 q))]
  · rw [if_neg e, rows_at (by rw [rows_len]; exact hi)]
    congr 1
    refine List.map_congr_left fun t _ => ?_
    have e3 : (t < k ∨ (t = k ∧ i < j)) ↔ (t < k ∨ (t = k ∧ i < j + 1)) := by omega
    by_cases h : t < k ∨ (t = k ∧ i < j)
    · rw [if_pos h, if_pos (e3.1 h)]
    · rw [if_neg h, if_neg (fun q => h (e3.2 q))]
theorem rows_lev {s : List Nd} {M k j i : Nat} (h : i < (rowsKJ s M k j).length) : (rowsKJ s M k j)[i].levels.length = M := by rw [rows_at]; simp
theorem rows_id {s : List Nd} {M k j i : Nat} (h : i < (rowsKJ s M k j).length) : (rowsKJ s M k j)[i].id = (s[i]'(by rwa [rows_len] at h)).id := by rw [rows_at]
theorem LMap.setC {w : World} {b n : Nat} {f : Int → Option Lk} (h : LMap w b n f) {p : Addr} (hp : b ≠ p.block) (u : Value) : LMap (w.setCell p u) b n f := by
  obtain ⟨D, h1, h2⟩ := h
  exact ⟨D, h1.setCell hp u, h2⟩
theorem LMap.ne_has {w : World} {b n X : Nat} {f : Int → Option Lk} {t : TypeId} {cs : Array Value} (h : LMap w b n f) (k : Has w X t cs) : b ≠ X := by
  rintro rfl
  obtain ⟨D, ⟨es, clock, h1, _⟩, _⟩ := h
  unfold Has at k
  rw [h1] at k
  cases k
theorem DBlk.drew {w : World} {g : Nat} {H : Nat → Nat} {ls : List Ld} {r : List (Int × Value)} (h : DBlk w g H ls r) : DBlk w.drew g H ls r := h.below (Below.refl _ _).drew
/-- What Build answers. -/
def bldE (l : List Nd) (h : Int) : Int := if chkV l = 0 then (if lvB h = true then 0 else 2) else 1
def bldR (l : List Nd) (h : Int) : List Ld := if bldE l h = 0 then bldV l (h + 1).toNat else []
def BldOk (R : List Ld) (w : World) (e : Ending) (w' : World) : Prop := ∃ g H, w.heap.size ≤ g ∧ e = .returned (.tuple #[.slice (some ⟨g, 0, none⟩) R.length R.length, .int .i64 0]) ∧ DBlk w' g H R [] ∧ Below w.heap.size w w'
def BldP (l : List Nd) (h : Int) (w : World) (e : Ending) (w' : World) : Prop :=
  (bldE l h ≠ 0 ∧ e = .returned (.tuple #[.slice none 0 0, .int .i64 (bldE l h)]) ∧ Below w.heap.size w w') ∨
  (bldE l h = 0 ∧ BldOk (bldV l (h + 1).toNat) w e w')

set_option maxRecDepth 100000 in
set_option maxHeartbeats 800000 in
theorem build_ok (A : Option Addr) (l : List Nd) (c m : Nat) (w : World) (hl : Nds w w.heap.size A l) (hchk : chkV l = 0) (hm : m ≤ 16) :
    Calls Tryz.prog 52 #[.slice A l.length c, .int .i64 (m : Int)] w (BldOk (bldV l (m + 1)) w) := by
  have HC := Lib.hid ((check_any A l c w hl (fun x hx => (wide_of hchk x hx).2)).mono fun e w' h => (⟨by rw [h.1, hchk], h.2⟩ : e = .returned (.int .i64 0) ∧ Below w.heap.size w w'))
  have HI := Lib.hid (fun (W : World) => (isLevel_any (m : Int) W).mono fun e w' h => (⟨by rw [h.1]; simp [lvB]; omega, h.2⟩ : e = .returned (.bool true) ∧ W = w'))
  have HS := Lib.hid (fun (W : World) (k : Below w.heap.size w W) => sortR_any A l c W ((hl.below k).more k.size) hchk)
  have hsl := srt_le hchk
  have HBV : Hid (bldV l (m + 1) = rowsKJ (srt l) (m + 1) (m + 1) 0) := Lib.hid (rows_fin _ _).symm
  have HLK := Lib.hid (fun (W : World) (A2 : Option Addr) (c2 : Nat) (h : Int) (hr : Nds W W.heap.size A2 (srt l)) => linksAt_any A2 (srt l) c2 h W hr (by omega) (wide_srt hchk))
  have HMP : Hid (∀ (k : Nat) (i : Nat) (hi : i < (srt l).length), k ≤ 16 → (mpOf ((clsV (srt l) (k : Int)).flatMap lks) (srt l)[i].id).getD ⟨0, 0⟩ = lnk (srt l) (k : Int) (srt l)[i]) := Lib.hid fun k i hi hk => by
    rw [mp_lnk (ros_of hchk).apart (srt_wd hchk) (by omega) (List.getElem_mem hi)]
    rfl
  have HW := Lib.hid (wide_srt hchk)
  generalize srt l = S at *
  generalize bldV l (m + 1) = R at *
  clear hl hchk
  have hmk := fun W => make_links W (m + 1) (by omega)
  rw [show ((m + 1 : Nat) : Int) = (m : Int) + 1 by omega] at hmk
  have hmp := fun W => make_linked W S.length (by omega)
  go_enter Tryz.func52, Tryz.ntmps52
  go_wp2_with fail
  refine (HC.out).mono ?_
  rintro e w1 ⟨rfl, hb1⟩
  have HB1 := Lib.hid hb1
  clear hb1 HC
  go_wp2_with fail
  refine (HI.out _).mono ?_
  rintro e w2 ⟨rfl, rfl⟩
  go_wp2_with fail
  refine (HS.out _ HB1.out).mono ?_
  rintro e w2 ⟨A2, c2, rfl, ho2, hb2⟩
  obtain ⟨_, _, er, hr2⟩ := ho2.read
  injection er with e1 _ e2
  subst e1 e2
  have HB2 := Lib.hid (HB1.out.trans (hb2.mono HB1.out.size))
  clear hb2 HS HB1 ho2
  obtain ⟨n, hn⟩ : ∃ n, n = S.length := ⟨_, rfl⟩
  have HN := Lib.hid hn
  rw [← hn] at hsl hmp HLK ⊢
  have HD0 := Lib.hid (DBlk.new w2 (List.replicate n zP))
  have HBG := Lib.hid ((Below.refl w2.heap.size w2).alloc (Nat.le_refl _) (.cells (flatP (List.replicate n zP)).toArray 56))
  obtain ⟨g, hg⟩ : ∃ g, g = w2.heap.size := ⟨_, rfl⟩
  have HG := Lib.hid hg
  clear hn
  go_upto_region 7 with fail
  rw [← hg] at HD0 HBG ⊢
  generalize w2.alloc (.cells (flatP (List.replicate n zP)).toArray 56) = w3 at *
  clear hmp hg
  go_wp2_with fail
  go_loopw [27] (fun vi wr => ∃ (i : Nat) (H : Nat → Nat), vi = .int .i64 (i : Int) ∧ i ≤ n ∧ DBlk wr g H ((S.take i).map fun x => ⟨x.id, List.replicate (m + 1) zK⟩) (List.replicate (n - i) zP) ∧ Below g w2 wr) (fun vi _ => n - (intOf vi).toNat)
  case atStart => exact ⟨0, fun _ => 0, rfl, by omega, by simpa using HD0.out, HBG.out⟩
  case round =>
    clear HD0 HBG
    obtain ⟨i, H, rfl, hi, hD, hB⟩ := hrel
    by_cases hlt : i < n
    · have i2 : i < S.length := by rw [← HN.out]; exact hlt
      obtain ⟨b, o, hA2, hb, f1, f2, f3⟩ := hr2.at_ i2
      subst hA2
      have hyw := HW.out _ (List.getElem_mem i2)
      have HT : Hid ((S.take (i + 1)).map (fun x => (⟨x.id, List.replicate (m + 1) zK⟩ : Ld)) = (S.take i).map (fun x => (⟨x.id, List.replicate (m + 1) zK⟩ : Ld)) ++ [⟨S[i].id, List.replicate (m + 1) zK⟩]) := Lib.hid (by rw [List.take_succ_eq_append_getElem i2, List.map_append]; rfl)
      have hls : ((S.take i).map fun x => (⟨x.id, List.replicate (m + 1) zK⟩ : Ld)).length = i := by simp; omega
      have hbg : b < g := by have := HG.out; omega
      replace f1 := (hB.cell (p := ⟨b, o + i * 3, none⟩) hbg).trans f1
      replace f2 := (hB.cell (p := ⟨b, o + i * 3 + 1, none⟩) hbg).trans f2
      replace f3 := (hB.cell (p := ⟨b, o + i * 3 + 2, none⟩) hbg).trans f3
      generalize S[i] = y at *
      generalize ((S.take i).map fun x => (⟨x.id, List.replicate (m + 1) zK⟩ : Ld)) = ls at *
      obtain ⟨yi, yk, yw⟩ := y
      have i0 : (0 : Int) ≤ (i : Int) := by omega
      have i1 : (i : Int) < (n : Int) := by omega
      have er : List.replicate (n - i) zP = zP :: List.replicate (n - (i + 1)) zP := by rw [show n - i = (n - (i + 1)) + 1 by omega, List.replicate_succ]
      rw [er] at hD
      clear er
      have hX := Has.new wr 25 #[.int .i64 yi, .string yk, .int .u32 (yw : Int)]
      have x0 := hX.cell 0
      have hk1 := (Below.refl wr.heap.size wr).alloc (Nat.le_refl _) (.cells #[.int .i64 yi, .string yk, .int .u32 (yw : Int)] 25)
      have hgl := hD.outer.lt
      have hD1 := hD.below hk1
      have HD := Lib.hid hD
      have HBR := Lib.hid hB
      have HHX := Lib.hid hX
      have HK1 := Lib.hid hk1
      clear hX hk1 hD hB x0
      go_upto_region 10 with fail
      generalize wr.alloc (.cells #[.int .i64 yi, .string yk, .int .u32 (yw : Int)] 25) = WA at *
      have x0 := (HHX.out.cell 0)
      have x1 := ((HHX.out.alloc (.cells (flatK (List.replicate (m + 1) zK)).toArray 53)).cell 0)
      have hmz : (m : Int) ≤ 16 := by omega
      have hmy : (0 : Int) ≤ (m : Int) := by omega
      have hD2 : DBlk (WA.alloc (.cells (flatK (List.replicate (m + 1) zK)).toArray 53)) g H ls (zP :: List.replicate (n - (i + 1)) zP) := hD1.below ((Below.refl WA.heap.size WA).alloc (Nat.le_refl _) _)
      have o0 := hD2.outer.cell (i * 2)
      have o1 := hD2.outer.cell (i * 2 + 1)
      have oz := fun o => hD2.outer.frozen o
      obtain ⟨e0, e1⟩ := flatP_at (dq H ls ++ zP :: List.replicate (n - (i + 1)) zP) i (by simp [dq_len, hls])
      simp only [List.getElem?_toArray] at o0 o1
      rw [e0] at o0
      rw [e1] at o1
      clear e0 e1 hD1 hD2
      go_region
      go_wp2_with fail
      have hkk := HK1.out.trans (((Below.refl WA.heap.size WA).alloc (Nat.le_refl _) (.cells (flatK (List.replicate (m + 1) zK)).toArray 53)).mono HK1.out.size)
      have hpu := HD.out.push (w' := WA.alloc (.cells (flatK (List.replicate (m + 1) zK)).toArray 53)) hkk (Has.new WA _ _) HK1.out.size yi
      rw [hls, List.length_replicate] at hpu
      refine ⟨⟨i + 1, _, by go_num, hlt, by rw [HT.out]; exact hpu.drew, ?_⟩, by simp [intOf]; omega⟩
      exact (((HBR.out.trans (hkk.mono (Nat.le_of_lt hgl))).setCell (p := ⟨g, i * 2, none⟩) (Nat.le_refl _) _).setCell (p := ⟨g, i * 2 + 1, none⟩) (Nat.le_refl _) _).drew
    · have ei : i = n := by omega
      subst ei
      rw [Nat.sub_self, List.take_of_length_le (by rw [← HN.out]; exact Nat.le_refl _), ← rows_zero] at hD
      have HD := Lib.hid hD
      have HBR := Lib.hid hB
      have hmz : (m : Int) ≤ 16 := by omega
      have hmy : (0 : Int) ≤ (m : Int) := by omega
      clear hD hB hmk
      go_wp2_with fail
      go_loopw [44] (fun vk wr => ∃ (k : Nat) (H : Nat → Nat), vk = .int .i64 (k : Int) ∧ k ≤ m + 1 ∧ DBlk wr g H (rowsKJ S (m + 1) k 0) [] ∧ Below g w2 wr) (fun vk _ => m + 1 - (intOf vk).toNat)
      case atStart => exact ⟨0, _, rfl, by omega, HD.out, HBR.out⟩
      case round =>
        clear HD HBR
        obtain ⟨k, H, rfl, hk, hD, hB⟩ := hrel
        by_cases hltk : k < m + 1
        · have hr4 := (hr2.below (hB.mono (by have := HG.out; omega))).more (show w2.heap.size ≤ wr.heap.size by have := hB.size; omega)
          have HL := Lib.hid (HLK.out wr A2 c2 (k : Int) hr4)
          have HD := Lib.hid hD
          have HBR := Lib.hid hB
          have hgl := hD.outer.lt
          have j0 : (0 : Int) ≤ (k : Int) := by omega
          have j1 : (k : Int) < (m : Int) + 1 := by omega
          clear hr4 hD hB
          go_wp2_with fail
          refine (HL.out).mono ?_
          rintro e w4 ⟨b, nn, rfl, hM, hb4⟩
          have hD4 := HD.out.below hb4
          have hB4 := HBR.out.trans (hb4.mono (Nat.le_of_lt hgl))
          clear HL HD HBR hb4 hgl
          go_wp2_with fail
          go_loopw [52] (fun vj wr => ∃ j : Nat, vj = .int .i64 (j : Int) ∧ j ≤ i ∧ DBlk wr g H (rowsKJ S (m + 1) k j) [] ∧ LMap wr b nn (mpOf ((clsV S (k : Int)).flatMap lks)) ∧ Below g w2 wr) (fun vj _ => i - (intOf vj).toNat)
          case atStart => exact ⟨0, rfl, by omega, hD4, hM, hB4⟩
          case round =>
            clear hD4 hM hB4
            obtain ⟨j, rfl, hj, hD, hM, hB⟩ := hrel
            by_cases hlt2 : j < i
            · have j2 : j < S.length := by rw [← HN.out]; exact hlt2
              have j3 : j < (rowsKJ S (m + 1) k j).length := by rw [rows_len]; exact j2
              obtain ⟨f1, f2⟩ := hD.head j3
              have hin := (hD.inner j j3)
              have j4 : k < (rowsKJ S (m + 1) k j)[j].levels.length := by rw [rows_lev]; exact hltk
              obtain ⟨l1, l2⟩ := hD.lev j3 j4
              rw [rows_lev] at f2
              replace f1 : wr.cell? ⟨g, j * 2, none⟩ = some (.int .i64 S[j].id) := by rw [rows_id] at f1; exact f1
              have hyw : -9223372036854775808 ≤ S[j].id ∧ S[j].id ≤ 9223372036854775807 := (HW.out _ (List.getElem_mem j2)).1
              have HV := HMP.out k j j2 (by omega)
              have HST := Lib.hid (fun (w5 : World) (h5 : DBlk w5 g H (rowsKJ S (m + 1) k j) []) => (by
                have := h5.link j3 (k := k) (by rw [rows_lev]; exact hltk) (lnk S (k : Int) S[j])
                rw [rows_set j3 hltk] at this
                exact this : DBlk ((w5.setCell ⟨H j, k * 2, none⟩ (.int .i64 (lnk S (k : Int) S[j]).left)).setCell ⟨H j, k * 2 + 1, none⟩ (.int .i64 (lnk S (k : Int) S[j]).right)) g H (rowsKJ S (m + 1) k (j + 1)) []))
              generalize (rowsKJ S (m + 1) k j)[j].levels[k] = y0 at l1 l2
              generalize lnk S (k : Int) S[j] = y at *
              generalize S[j].id = yi at *
              obtain ⟨yl, yr⟩ := y
              have i0 : (0 : Int) ≤ (j : Int) := by omega
              have i1 : (j : Int) < (i : Int) := by omega
              have hX := Has.new wr 56 #[.int .i64 yi, .slice (some ⟨H j, 0, none⟩) (m + 1) (m + 1)]
              have x0 := hX.cell 0
              have x1 := hX.cell 1
              have hk1 := (Below.refl wr.heap.size wr).alloc (Nat.le_refl _) (.cells #[.int .i64 yi, .slice (some ⟨H j, 0, none⟩) (m + 1) (m + 1)] 56)
              have hgl := hD.outer.lt
              have HDA := Lib.hid (hD.below hk1)
              have HMA := Lib.hid (hM.below hk1)
              have HBA := Lib.hid (hB.trans (hk1.mono (Nat.le_of_lt hgl)))
              have hlook := HMA.out.look hyw.1 hyw.2
              rw [HV] at hlook
              have hbne := HMA.out.ne_has (hin.2.below hk1)
              have HHG := Lib.hid (Nat.le_of_lt hin.1)
              have hI := hin.2.below hk1
              have l1' := (hk1.cell (p := ⟨H j, k * 2, none⟩) hin.2.lt).trans l1
              have l2' := (hk1.cell (p := ⟨H j, k * 2 + 1, none⟩) hin.2.lt).trans l2
              have lz := fun o => hI.frozen o
              clear hD hM hB hk1 hX hin hI l1 l2 HV hyw
              go_wp2_with fail
              refine ⟨⟨j + 1, by go_num, hlt2, HST.out _ HDA.out, ?_, ?_⟩, by simp [intOf]; omega⟩
              · exact (HMA.out.setC (p := ⟨H j, k * 2, none⟩) hbne _).setC (p := ⟨H j, k * 2 + 1, none⟩) hbne _
              · exact (HBA.out.setCell (p := ⟨H j, k * 2, none⟩) HHG.out _).setCell (p := ⟨H j, k * 2 + 1, none⟩) HHG.out _
            · have ej : j = i := by omega
              subst ej
              rw [HN.out, rows_next] at hD
              have HDF := Lib.hid hD
              have HBF := Lib.hid hB
              clear hD hM hB
              go_wp2_with fail
              exact ⟨⟨k + 1, H, by go_num, hltk, HDF.out, HBF.out⟩, by simp [intOf]; omega⟩
        · have ek : k = m + 1 := by omega
          subst ek
          rw [← HBV.out] at hD
          have HRL : Hid (R.length = i) := Lib.hid (by rw [HBV.out, rows_len]; exact HN.out.symm)
          have HDF := Lib.hid hD
          have HBF := Lib.hid hB
          have hcz : ¬ ((m : Int) + 1 < (m : Int) + 1) := by omega
          clear hD hB
          go_wp2_with fail
          go_ret2
          refine ⟨g, H, by have := HG.out; have := HB2.out.size; omega, by rw [HRL.out]; rfl, HDF.out, ?_⟩
          refine HB2.out.trans (HBF.out.mono ?_)
          have := HG.out
          have := HB2.out.size
          omega

theorem bldE_ok {l : List Nd} {h : Int} (hc : chkV l = 0) (hh : lvB h = true) : bldE l h = 0 := by unfold bldE; rw [if_pos hc, if_pos hh]
set_option maxRecDepth 100000 in
set_option maxHeartbeats 800000 in
theorem build_any (A : Option Addr) (l : List Nd) (c : Nat) (h : Int) (w : World) (hl : Nds w w.heap.size A l) (hwd : ∀ x ∈ l, x.word < 4294967296) :
    Calls Tryz.prog 52 #[.slice A l.length c, .int .i64 h] w (BldP l h w) := by
  by_cases hchk : chkV l = 0
  · by_cases hlv : lvB h = true
    · have h2 : 0 ≤ h ∧ h ≤ 16 := by simpa [lvB] using hlv
      obtain ⟨m, rfl⟩ := Int.eq_ofNat_of_zero_le h2.1
      refine (build_ok A l c m w hl hchk (by omega)).mono fun e w' k => .inr ⟨bldE_ok hchk hlv, ?_⟩
      rw [show ((m : Int) + 1).toNat = m + 1 by omega]
      exact k
    · have hlz : lvB h = false := by simpa using hlv
      have hE : bldE l h = 2 := by unfold bldE; rw [if_pos hchk, if_neg hlv]
      have HC := Lib.hid ((check_any A l c w hl hwd).mono fun e w' h => (⟨by rw [h.1, hchk], h.2⟩ : e = .returned (.int .i64 0) ∧ Below w.heap.size w w'))
      have HI := Lib.hid (fun (W : World) => isLevel_any h W)
      have HF : Hid (∀ e w', (e = .returned (.tuple #[.slice none 0 0, .int .i64 2]) ∧ Below w.heap.size w w') → BldP l h w e w') := Lib.hid fun e w' k => .inl ⟨by rw [hE]; decide, by rw [hE]; exact k.1, k.2⟩
      rw [hlz] at HI
      refine Calls.mono ?_ HF.out
      clear hl hwd hchk hlv hlz hE HF
      go_enter Tryz.func52, Tryz.ntmps52
      go_wp2_with fail
      refine (HC.out).mono ?_
      rintro e w1 ⟨rfl, hb1⟩
      go_wp2_with fail
      refine (HI.out _).mono ?_
      rintro e w2 ⟨rfl, rfl⟩
      go_wp2_with fail
      go_ret2
      exact ⟨rfl, hb1⟩
  · have hE : bldE l h = 1 := by unfold bldE; rw [if_neg hchk]
    have HC := Lib.hid (check_any A l c w hl hwd)
    have hz : (chkV l != 0) = true := by simpa using hchk
    have HF : Hid (∀ e w', (e = .returned (.tuple #[.slice none 0 0, .int .i64 1]) ∧ Below w.heap.size w w') → BldP l h w e w') := Lib.hid fun e w' k => .inl ⟨by rw [hE]; decide, by rw [hE]; exact k.1, k.2⟩
    refine Calls.mono ?_ HF.out
    generalize chkV l = Z at *
    clear hl hwd hchk hE HF
    go_enter Tryz.func52, Tryz.ntmps52
    go_wp2_with fail
    refine (HC.out).mono ?_
    rintro e w1 ⟨rfl, hb1⟩
    go_wp2_with fail
    go_ret2
    exact ⟨rfl, hb1⟩
end
section
open Go.RowKit

def three6 : List Nd := [⟨1, ⟨#[97]⟩, 0⟩, ⟨2, ⟨#[98]⟩, 1⟩, ⟨3, ⟨#[99]⟩, 2⟩]
theorem t_ok : chkV three6 = 0 := by
  refine chkV_zero.2 ⟨by decide, by decide +kernel, ?_⟩
  simp [Nd.apart, three6]
theorem t_srt : srt three6 = three6 := (srt_of ⟨List.Perm.refl _, by decide +kernel⟩ (chkV_zero.1 t_ok).2.2).symm
theorem t_hgt : hgtV three6 = 2 := by
  unfold hgtV
  rw [if_pos t_ok]
  decide +kernel
theorem t_nb : nbB three6 1 1 = true ∧ nbL three6 1 1 = ⟨0, 3⟩ := by
  have h := nb_in t_ok (h := 1) (by decide) (by decide) (x := ⟨1, ⟨#[97]⟩, 0⟩) (by simp [three6])
  refine ⟨h.1, h.2.trans ?_⟩
  rw [t_srt]
  decide +kernel
theorem t_lst : lstV three6 1 = [[1, 3], [2]] := by
  unfold lstV
  rw [if_pos ⟨t_ok, by decide⟩, t_srt]
  decide +kernel
theorem t_bld : bldV three6 2 = [⟨1, [⟨0, 2⟩, ⟨0, 3⟩]⟩, ⟨2, [⟨1, 3⟩, ⟨0, 0⟩]⟩, ⟨3, [⟨2, 0⟩, ⟨1, 0⟩]⟩] := by
  unfold bldV
  rw [t_srt]
  decide +kernel
theorem eq_lk (a b : Lk) (w : World) : (Op.equalIn 10000 53 (.agg #[.int .i64 a.left, .int .i64 a.right]) (.agg #[.int .i64 b.left, .int .i64 b.right])).run Tryz.prog w = .ok (decide (a = b)) w := by
  rw [run_equalIn_agg w 9999 53 _ _ (by kernel_rfl) (by kernel_rfl)]
  obtain ⟨al, ar⟩ := a
  obtain ⟨bl, br⟩ := b
  by_cases h1 : al = bl <;> by_cases h2 : ar = br <;> simp [go_sem, Tryz.underlying53, Tryz.underlying3, h1, h2]
theorem neq_lk (a b : Lk) (w : World) : (binOp .neq 53 (.agg #[.int .i64 a.left, .int .i64 a.right]) (.agg #[.int .i64 b.left, .int .i64 b.right])).run Tryz.prog w = .ok (.bool (!decide (a = b))) w := by
  rw [run_neq_struct, eq_lk]
  rfl
theorem eql_lk (a b : Lk) (w : World) : (binOp .eql 53 (.agg #[.int .i64 a.left, .int .i64 a.right]) (.agg #[.int .i64 b.left, .int .i64 b.right])).run Tryz.prog w = .ok (.bool (decide (a = b))) w := by
  rw [run_eql_struct, eq_lk]
  rfl
end
section
open Go.RowKit

theorem take_eq_next {α : Type} {a b : List α} {k : Nat} (h1 : k < a.length) (h2 : k < b.length) (h : a.take k = b.take k) (e : a[k] = b[k]) : a.take (k + 1) = b.take (k + 1) := by
  rw [List.take_succ_eq_append_getElem h1, List.take_succ_eq_append_getElem h2, h, e]
theorem take_eq_all {α : Type} {a b : List α} {k : Nat} (h1 : a.length ≤ k) (h2 : b.length ≤ k) (h : a.take k = b.take k) : a = b := by
  rwa [List.take_of_length_le h1, List.take_of_length_le h2] at h
theorem get_ne {α : Type} {a b : List α} {k : Nat} (h1 : k < a.length) (h2 : k < b.length) (e : a[k] ≠ b[k]) : a ≠ b := fun h => e (by subst h; rfl)
set_option maxRecDepth 100000 in
set_option maxHeartbeats 1600000 in
theorem rsame6_any (A1 A2 : Option Addr) (a b : List Ld) (c1 c2 : Nat) (w : World) (h1 : Lds w w.heap.size A1 a) (h2 : Lds w w.heap.size A2 b) (h63 : a.length ≤ 1000000) :
    Calls Tryz.prog 15 #[.slice A1 a.length c1, .slice A2 b.length c2] w (BoolN (decide (a = b)) w) := by
  by_cases hlen : a.length = b.length
  · have HLN := Lib.hid hlen
    have hn : ((a.length : Int) != (b.length : Int)) = false := by simp [hlen]
    have HFN : Hid (a ≠ b → decide (a = b) = false) := Lib.hid fun h => by simp [h]
    have HFY : Hid (a = b → decide (a = b) = true) := Lib.hid fun h => by simp [h]
    clear hlen
    generalize decide (a = b) = Z at *
    generalize hla : a.length = la at *
    generalize hlb : b.length = lb at *
    have hz : (la : Int) ≤ (lb : Int) := by have := HLN.out; omega
    have HA := Lib.hid hla
    have HB := Lib.hid hlb
    clear hla hlb
    go_enter Tryz.func15, Tryz.ntmps15
    go_wp2_with fail
    go_loopw [5] (fun i wr => ∃ k : Nat, i = .int .i64 (k : Int) ∧ k ≤ la ∧ Below w.heap.size w wr ∧ Hid (a.take k = b.take k)) (fun i _ => la - (intOf i).toNat)
    case atStart => exact ⟨0, rfl, by omega, Below.refl _ _, Lib.hid rfl⟩
    case round =>
      obtain ⟨k, rfl, hk, hB, HS⟩ := hrel
      by_cases hlt : k < la
      · have k1 : k < a.length := by rw [HA.out]; exact hlt
        have k2 : k < b.length := by rw [HB.out, ← HLN.out]; exact hlt
        obtain ⟨b1, o1, e1, hb1, f1, B1, d1, f2, hc1, hm1, hr1⟩ := h1.at_ k1
        obtain ⟨b2, o2, e2, hb2, g1, B2, d2, g2, hc2, hm2, hr2⟩ := h2.at_ k2
        subst e1 e2
        have HNE := Lib.hid (fun (e : a[k] ≠ b[k]) => get_ne k1 k2 e)
        have HNX := Lib.hid (fun (e : a[k] = b[k]) => take_eq_next k1 k2 HS.out e)
        replace f1 := (hB.cell (p := ⟨b1, o1 + k * 2, none⟩) hb1).trans f1
        replace f2 := (hB.cell (p := ⟨b1, o1 + k * 2 + 1, none⟩) hb1).trans f2
        replace g1 := (hB.cell (p := ⟨b2, o2 + k * 2, none⟩) hb2).trans g1
        replace g2 := (hB.cell (p := ⟨b2, o2 + k * 2 + 1, none⟩) hb2).trans g2
        generalize a[k] = x at *
        generalize b[k] = y at *
        obtain ⟨xi, xs⟩ := x
        obtain ⟨yi, ys⟩ := y
        simp only at f1 f2 g1 g2 hc1 hc2 hr1 hr2
        have i0 : (0 : Int) ≤ (k : Int) := by omega
        have i1 : (k : Int) < (la : Int) := by omega
        have i2 : (k : Int) < (lb : Int) := by omega
        have hBd : Below w.heap.size w wr.drew := hB.drew
        clear k1 k2 hn
        obtain ⟨p, hp⟩ : ∃ p, p = xs.length := ⟨_, rfl⟩
        obtain ⟨q, hq⟩ : ∃ q, q = ys.length := ⟨_, rfl⟩
        rw [← hp] at f2 hc1
        rw [← hq] at g2 hc2
        have HP := Lib.hid hp
        have HQ := Lib.hid hq
        clear hp hq
        by_cases hid : xi = yi
        · subst hid
          have s1 : ((xi : Int) != xi) = false := by simp
          by_cases hpq : p = q
          · have s2 : ((p : Int) != (q : Int)) = false := by simp [hpq]
            have hpm : p ≤ maxLen := Nat.le_trans hc1 hm1
            unfold maxLen at hpm
            have HPQ := Lib.hid hpq
            have HR1 : Hid (∀ W, Below w.heap.size w W → W.cell? ⟨b1, o1 + k * 2 + 1, none⟩ = some (.slice B1 p d1) ∧ W.cell? ⟨b2, o2 + k * 2 + 1, none⟩ = some (.slice B2 q d2)) := Lib.hid fun W h => ⟨(h.cell (p := ⟨b1, o1 + k * 2 + 1, none⟩) hb1).trans ((hB.cell (p := ⟨b1, o1 + k * 2 + 1, none⟩) hb1).symm.trans f2), (h.cell (p := ⟨b2, o2 + k * 2 + 1, none⟩) hb2).trans ((hB.cell (p := ⟨b2, o2 + k * 2 + 1, none⟩) hb2).symm.trans g2)⟩
            clear hpq
            go_wp2_with fail
            go_quiet (fail)
            go_wp2_with fail
            go_loopw [6] (fun vt wr => ∃ t : Nat, vt = .int .i64 (t : Int) ∧ t ≤ p ∧ Below w.heap.size w wr ∧ Hid (xs.take t = ys.take t)) (fun vt _ => p - (intOf vt).toNat)
            case atStart => exact ⟨0, rfl, by omega, ⟨hB.os, hB.tape, hB.output, hB.size, hB.block⟩, Lib.hid rfl⟩
            case round =>
              clear f1 f2 g1 g2 hB hBd
              obtain ⟨t, rfl, ht, hB, HT⟩ := hrel
              obtain ⟨f2, g2⟩ := HR1.out wr hB
              by_cases hltt : t < p
              · have t1 : t < xs.length := by rw [← HP.out]; exact hltt
                have t2 : t < ys.length := by rw [← HQ.out, ← HPQ.out]; exact hltt
                obtain ⟨b3, o3, e3, hb3, l1, l2⟩ := hr1.at_ t1
                obtain ⟨b4, o4, e4, hb4, m1, m2⟩ := hr2.at_ t2
                subst e3 e4
                have HME := Lib.hid (fun (e : xs[t] ≠ ys[t]) => get_ne t1 t2 e)
                have HMX := Lib.hid (fun (e : xs[t] = ys[t]) => take_eq_next t1 t2 HT.out e)
                have hBd := hB.drew
                replace l1 : wr.drew.cell? ⟨b3, o3 + t * 2, none⟩ = _ := (hB.cell (p := ⟨b3, o3 + t * 2, none⟩) hb3).trans l1
                replace l2 : wr.drew.cell? ⟨b3, o3 + t * 2 + 1, none⟩ = _ := (hB.cell (p := ⟨b3, o3 + t * 2 + 1, none⟩) hb3).trans l2
                replace m1 : wr.drew.cell? ⟨b4, o4 + t * 2, none⟩ = _ := (hB.cell (p := ⟨b4, o4 + t * 2, none⟩) hb4).trans m1
                replace m2 : wr.drew.cell? ⟨b4, o4 + t * 2 + 1, none⟩ = _ := (hB.cell (p := ⟨b4, o4 + t * 2 + 1, none⟩) hb4).trans m2
                have f2d : wr.drew.cell? ⟨b1, o1 + k * 2 + 1, none⟩ = some (.slice (some ⟨b3, o3, none⟩) p d1) := f2
                have g2d : wr.drew.cell? ⟨b2, o2 + k * 2 + 1, none⟩ = some (.slice (some ⟨b4, o4, none⟩) q d2) := g2
                generalize xs[t] = u at *
                generalize ys[t] = v at *
                obtain ⟨ul, ur⟩ := u
                obtain ⟨vl, vr⟩ := v
                have j0 : (0 : Int) ≤ (t : Int) := by omega
                have j1 : (t : Int) < (p : Int) := by omega
                have j2 : (t : Int) < (q : Int) := by have := HPQ.out; omega
                have j3 : (p : Int) ≤ 9223372036854775807 := by omega
                clear t1 t2
                by_cases huv : (⟨ul, ur⟩ : Lk) = ⟨vl, vr⟩
                · injection huv with e1 e2
                  subst e1 e2
                  have HX := Lib.hid (HMX.out rfl)
                  have hNE : ∀ W, (binOp .neq 53 (.agg #[.int .i64 ul, .int .i64 ur]) (.agg #[.int .i64 ul, .int .i64 ur])).run Tryz.prog W = .ok (.bool false) W := fun W => by rw [neq_lk ⟨ul, ur⟩ ⟨ul, ur⟩]; simp
                  clear HME HMX
                  go_wp2_with fail
                  refine wp_region_still_tail 16 (by kernel_rfl) (by kernel_rfl) ?_
                  simp only [List.take_succ_cons, List.take_zero, List.drop_succ_cons, List.drop_zero]
                  change wpStill _ _ wr.drew (fun a' => wpList _ _ _ _ a' wr.drew) _ _
                  generalize wr.drew = w9 at *
                  repeat still_step
                  refine wpStill_nil ?_
                  go_wp2_with fail
                  exact ⟨⟨t + 1, by go_num, hltt, hBd, HX⟩, by simp [intOf]; omega⟩
                · have HX : Hid (Z = false) := Lib.hid (HFN.out (HNE.out (fun e => HME.out huv (by injection e))))
                  have hNE : ∀ W, (binOp .neq 53 (.agg #[.int .i64 ul, .int .i64 ur]) (.agg #[.int .i64 vl, .int .i64 vr])).run Tryz.prog W = .ok (.bool true) W := fun W => by rw [neq_lk ⟨ul, ur⟩ ⟨vl, vr⟩]; simp [huv]
                  clear HME HMX huv
                  go_wp2_with fail
                  refine wp_region_still_tail 16 (by kernel_rfl) (by kernel_rfl) ?_
                  simp only [List.take_succ_cons, List.take_zero, List.drop_succ_cons, List.drop_zero]
                  change wpStill _ _ wr.drew (fun a' => wpList _ _ _ _ a' wr.drew) _ _
                  generalize wr.drew = w9 at *
                  repeat still_step
                  refine wpStill_nil ?_
                  go_wp2_with fail
                  go_ret
                  exact ⟨ret_bool HX.out.symm, hBd⟩
              · have HX := Lib.hid (HNX.out (by rw [take_eq_all (a := xs) (b := ys) (by rw [← HP.out]; omega) (by rw [← HQ.out, ← HPQ.out]; omega) HT.out]))
                go_wp2_with fail
                exact ⟨⟨k + 1, by go_num, hlt, hB, HX⟩, by simp [intOf]; omega⟩
          · have s2 : ((p : Int) != (q : Int)) = true := by simp; omega
            have HX : Hid (Z = false) := Lib.hid (HFN.out (HNE.out (fun e => hpq (by rw [HP.out, HQ.out]; injection e with _ e; rw [e]))))
            clear hpq HNE HNX
            go_wp2_with fail
            go_quiet (fail)
            go_wp2_with fail
            go_ret
            exact ⟨ret_bool HX.out.symm, ⟨hB.os, hB.tape, hB.output, hB.size, hB.block⟩⟩
        · have s1 : ((xi : Int) != yi) = true := by simpa using hid
          have HX : Hid (Z = false) := Lib.hid (HFN.out (HNE.out (fun e => hid (by injection e))))
          clear hid HNE HNX
          go_wp2_with fail
          go_quiet (fail)
          go_wp2_with fail
          go_ret
          exact ⟨ret_bool HX.out.symm, ⟨hB.os, hB.tape, hB.output, hB.size, hB.block⟩⟩
      · have HE : Hid (Z = true) := Lib.hid (HFY.out (take_eq_all (by have := HA.out; omega) (by have := HB.out; have := HLN.out; omega) HS.out))
        go_wp2_with fail
        go_ret
        exact ⟨ret_bool HE.out.symm, hB⟩
  · have HE : Hid (decide (a = b) = false) := Lib.hid (by simp; intro e; exact hlen (by rw [e]))
    have hn : ((a.length : Int) == (b.length : Int)) = false := by simp; omega
    generalize decide (a = b) = Z at *
    go_enter Tryz.func15, Tryz.ntmps15
    go_wp2_with fail
    go_ret
    exact ⟨ret_bool HE.out.symm, Below.refl _ _⟩
end
end Go.Proofs.YtjokbdhineilcaaGreatDoor
