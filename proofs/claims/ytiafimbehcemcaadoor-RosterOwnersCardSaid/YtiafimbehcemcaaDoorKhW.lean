/-
  Rank, Interval and Owner of the reference of chapter 5: what they answer. Condition: the nodes can be read.
-/
import Derived.Test.YtiafimbehcemcaaDoorKhV
import Derived.Test.YtiafimbehcemcaaDoorKhT
import Derived.Test.YtiafimbehcemcaaDoorKhS
import Derived.Test.YtiafimbehcemcaaDoorKgI
namespace Go.Proofs.YtiafimbehcemcaaDoor
open Go.RowKit

theorem mem_apart {l : List Nd} (h : l.Pairwise Nd.apart) {x y : Nd} (hx : x ∈ l) (hy : y ∈ l) (e : x.id = y.id) : x = y := by
  obtain ⟨i, hi, rfl⟩ := List.getElem_of_mem hx
  obtain ⟨j, hj, rfl⟩ := List.getElem_of_mem hy
  have := apart_at h hi hj e
  subst this; rfl
theorem fnd_mem {l : List Nd} {id : Int} (h : plc l id < l.length) : fndV l id ∈ l ∧ (fndV l id).id = id := by
  unfold fndV
  rw [List.getElem?_eq_getElem h]
  exact ⟨List.getElem_mem h, plc_id h⟩
theorem plc_srt {l : List Nd} {id : Int} : plc (srt l) id < (srt l).length ↔ plc l id < l.length := by
  rw [plc_found, plc_found]
  exact ⟨fun ⟨x, h, e⟩ => ⟨x, ((srt_srt l).mem x).1 h, e⟩, fun ⟨x, h, e⟩ => ⟨x, ((srt_srt l).mem x).2 h, e⟩⟩
theorem cnt_srt {l : List Nd} (hc : chkV l = 0) {id : Int} (h : plc l id < l.length) : l.countP (fun y => kl y.key (fndV l id).key) = plc (srt l) id := by
  have hr := ros_of hc
  obtain ⟨h1, h2⟩ := fnd_mem h
  have hp := plc_srt.2 h
  have e : fndV l id = (srt l)[plc (srt l) id] := mem_apart (chkV_zero.1 hc).2.2 h1 (((srt_srt l).mem _).1 (List.getElem_mem hp)) (by rw [h2, plc_id hp])
  rw [e, ← (srt_srt l).1.countP_eq]
  generalize plc (srt l) id = p at *
  generalize srt l = S at *
  have e1 : S.countP (fun y => kl y.key S[p].key) = (S.take p).countP (fun y => kl y.key S[p].key) + (S.drop p).countP (fun y => kl y.key S[p].key) := by
    rw [← List.countP_append, List.take_append_drop]
  have e2 : (S.take p).countP (fun y => kl y.key S[p].key) = p := by
    rw [List.countP_eq_length.2]
    · rw [List.length_take]; omega
    · intro a ha
      obtain ⟨j, hj, rfl⟩ := List.mem_take_iff_getElem.1 ha
      exact asc_at hr.asc (by omega) hp
  have e3 : (S.drop p).countP (fun y => kl y.key S[p].key) = 0 := by
    rw [List.countP_eq_zero]
    intro a ha
    obtain ⟨j, hj, rfl⟩ := List.mem_drop_iff_getElem.1 ha
    rw [asc_iff hr.asc (by omega) hp]
    omega
  omega
theorem rkB_no {l : List Nd} {id : Int} (h : ¬ plc l id < l.length) : rkB l id = false ∧ rkN l id = 0 := by
  have : rkB l id = false := by
    unfold rkB
    rw [Bool.and_eq_false_iff]
    exact .inr (by rw [decide_eq_false_iff_not, plc_srt]; exact h)
  exact ⟨this, by unfold rkN; rw [this]; rfl⟩
theorem rkB_bad {l : List Nd} {id : Int} (h : chkV l ≠ 0) : rkB l id = false ∧ rkN l id = 0 := by
  have : rkB l id = false := by simp [rkB, h]
  exact ⟨this, by unfold rkN; rw [this]; rfl⟩
theorem rkB_yes {l : List Nd} {id : Int} (hc : chkV l = 0) (h : plc l id < l.length) : rkB l id = true ∧ rkN l id = plc (srt l) id := by
  have : rkB l id = true := by
    unfold rkB
    rw [Bool.and_eq_true]
    exact ⟨by simpa using hc, by simpa using plc_srt.2 h⟩
  exact ⟨this, by unfold rkN; rw [this]; rfl⟩

set_option maxRecDepth 100000 in
set_option maxHeartbeats 1600000 in
theorem rrank_any (A : Option Addr) (l : List Nd) (c : Nat) (id : Int) (w : World) (hl : Nds w w.heap.size A l) (hn : l.length ≤ 100000) (hwd : ∀ x ∈ l, x.word < 4294967296) :
    Calls Tryd.prog 58 #[.slice A l.length c, .int .i64 id] w fun e w' => e = .returned (.tuple #[.int .i64 (rkN l id : Int), .bool (rkB l id)]) ∧ Below w.heap.size w w' := by
  have HF := rfind_any A l c id w hl hn
  unfold FndP at HF
  obtain ⟨n, hn'⟩ : ∃ n, n = l.length := ⟨_, rfl⟩
  by_cases hf : plc l id < l.length
  · have hd : decide (plc l id < l.length) = true := by simpa using hf
    rw [hd] at HF
    have HI := Lib.hid (fun (W : World) (k : Below w.heap.size w W) => ris_any A l c W ((hl.below k).more k.size) hwd)
    by_cases hc : chkV l = 0
    · have hz : (chkV l == 0) = true := by simpa using hc
      rw [hz] at HI
      obtain ⟨e1, e2⟩ := rkB_yes hc hf
      rw [e1, e2]
      have HCN := Lib.hid (cnt_srt hc hf)
      obtain ⟨V, hV⟩ : ∃ V, V = fndV l id := ⟨_, rfl⟩
      rw [← hV] at HF HCN
      obtain ⟨P, hP⟩ : ∃ P, P = plc (srt l) id := ⟨_, rfl⟩
      rw [← hP] at HCN ⊢
      have HFF := Lib.hid HF
      obtain ⟨Vi, Vk, Vw⟩ := V
      clear hz hc hd HF hV hP e1 e2
      go_enter Tryd.func58, Tryd.ntmps58
      go_wp2_with fail
      refine (HFF.out).mono ?_
      rintro e w1 ⟨rfl, hb1⟩
      have k1 := hb1.alloc hb1.size (.cells #[.int .i64 Vi, .string Vk, .int .u32 (Vw : Int)] 60)
      have HX1 := Lib.hid (Has.new w1 60 #[.int .i64 Vi, .string Vk, .int .u32 (Vw : Int)])
      have HK1 := Lib.hid k1
      clear hb1 k1
      go_wp2_with fail
      refine (HI.out _ HK1.out).mono ?_
      rintro e w2 ⟨rfl, hb2⟩
      have HX2 := Lib.hid (HX1.out.below hb2)
      have HK2 := Lib.hid (HK1.out.trans (hb2.mono HK1.out.size))
      clear hb2 HX1 HK1 HI HFF
      go_wp2_with fail
      generalize w1.heap.size = G at *
      go_loopw [8, 9] (fun vn vi wr => ∃ (k : Nat) (s : Nat), vi = .int .i64 (k : Int) ∧ vn = .int .i64 (s : Int) ∧ k ≤ l.length ∧ s ≤ k ∧ Below w2.heap.size w2 wr ∧ Hid (s = (l.take k).countP (fun y => kl y.key Vk))) (fun _ vi _ => l.length - (intOf vi).toNat)
      case atStart => exact ⟨0, 0, rfl, rfl, Nat.zero_le _, Nat.le_refl _, Below.refl _ _, Lib.hid rfl⟩
      case round =>
        obtain ⟨k, s, rfl, rfl, hk, hsk, hB, HS⟩ := hrel
        have BB := HK2.out.trans (hB.mono HK2.out.size)
        by_cases hlt : k < l.length
        · obtain ⟨b, o, hA2, hbl, f1, f2, f3⟩ := hl.at_ hlt
          subst hA2
          have HCT : Hid ((l.take (k + 1)).countP (fun y => kl y.key Vk) = (l.take k).countP (fun y => kl y.key Vk) + (kl l[k].key Vk).toNat) := Lib.hid (by
            rw [List.take_succ_eq_append_getElem hlt, List.countP_append]
            cases h : kl l[k].key Vk <;> simp [h])
          have F2 := (BB.cell (p := ⟨b, o + k * 3 + 1, none⟩) hbl).trans f2
          have X2 := HX2.out.below hB
          have x1 := X2.cell 1
          generalize l[k].key = yk at *
          have i0 : (0 : Int) ≤ (k : Int) := by omega
          have i1 : (k : Int) < (l.length : Int) := by omega
          clear f1 f2 f3 X2 BB
          cases hkl : kl yk Vk
          · have t1 : Op.bytesLess yk.toList Vk.toList = false := hkl
            have HZ : Hid (s = (l.take (k + 1)).countP (fun y => kl y.key Vk)) := Lib.hid (by rw [HCT.out, hkl, ← HS.out]; rfl)
            clear hkl
            go_wp2_with fail
            go_quiet (fail)
            go_wp2_with fail
            exact ⟨⟨k + 1, s, by go_num, rfl, hlt, by omega, ⟨hB.os, hB.tape, hB.output, hB.size, hB.block⟩, HZ⟩, by simp [intOf]; omega⟩
          · have t1 : Op.bytesLess yk.toList Vk.toList = true := hkl
            have HZ : Hid (s + 1 = (l.take (k + 1)).countP (fun y => kl y.key Vk)) := Lib.hid (by rw [HCT.out, hkl, ← HS.out]; rfl)
            clear hkl
            go_wp2_with fail
            go_quiet (fail)
            go_wp2_with fail
            exact ⟨⟨k + 1, s + 1, by go_num, by go_num, hlt, by omega, ⟨hB.os, hB.tape, hB.output, hB.size, hB.block⟩, HZ⟩, by simp [intOf]; omega⟩
        · have HZ : Hid (s = P) := Lib.hid (by rw [HS.out, List.take_of_length_le (by omega)]; exact HCN.out)
          have i1 : ¬ (k : Int) < (l.length : Int) := by omega
          go_wp2_with fail
          go_ret2
          exact ⟨by rw [HZ.out]; rfl, BB⟩
    · have hz : (chkV l == 0) = false := by simpa using hc
      rw [hz] at HI
      obtain ⟨e1, e2⟩ := rkB_bad (id := id) hc
      rw [e1, e2]
      generalize fndV l id = V at *
      have HFF := Lib.hid HF
      obtain ⟨Vi, Vk, Vw⟩ := V
      clear hz hc hd HF e1 e2 hl
      go_enter Tryd.func58, Tryd.ntmps58
      go_wp2_with fail
      refine (HFF.out).mono ?_
      rintro e w1 ⟨rfl, hb1⟩
      have HK1 := Lib.hid (hb1.alloc hb1.size (.cells #[.int .i64 Vi, .string Vk, .int .u32 (Vw : Int)] 60))
      clear hb1
      go_wp2_with fail
      refine (HI.out _ HK1.out).mono ?_
      rintro e w2 ⟨rfl, hb2⟩
      have HK2 := Lib.hid (HK1.out.trans (hb2.mono HK1.out.size))
      clear hb2
      go_wp2_with fail
      go_ret2
      exact ⟨rfl, HK2.out⟩
  · have hd : decide (plc l id < l.length) = false := by simpa using hf
    rw [hd] at HF
    obtain ⟨e1, e2⟩ := rkB_no hf
    rw [e1, e2]
    generalize fndV l id = V at *
    have HFF := Lib.hid HF
    obtain ⟨Vi, Vk, Vw⟩ := V
    clear hd HF e1 e2 hl hf
    go_enter Tryd.func58, Tryd.ntmps58
    go_wp2_with fail
    refine (HFF.out).mono ?_
    rintro e w1 ⟨rfl, hb1⟩
    have HK1 := Lib.hid (hb1.alloc hb1.size (.cells #[.int .i64 Vi, .string Vk, .int .u32 (Vw : Int)] 60))
    clear hb1
    go_wp2_with fail
    go_ret2
    exact ⟨rfl, HK1.out⟩

/-- The range that lies in the newest cells, and nothing else changed. -/
structure RgAt (w2 wx : World) (r : Rg) : Prop where
  below : Below w2.heap.size w2 wx
  has : Has wx w2.heap.size 74 #[.string r.lo.key, .bool r.lo.top, .string r.hi.key, .bool r.hi.top]
theorem RgAt.lo {w2 wx : World} {r : Rg} (h : RgAt w2 wx r) (k : ByteArray) : RgAt w2 (wx.setCell ⟨w2.heap.size, 0, none⟩ (.string k)) ⟨⟨k, r.lo.top⟩, r.hi⟩ :=
  ⟨h.below.setCell (Nat.le_refl _) _, h.has.set_ 0 (.string k)⟩
theorem RgAt.hi {w2 wx : World} {r : Rg} (h : RgAt w2 wx r) (k : ByteArray) : RgAt w2 ((wx.setCell ⟨w2.heap.size, 2, none⟩ (.string k)).setCell ⟨w2.heap.size, 3, none⟩ (.bool false)) ⟨r.lo, ⟨k, false⟩⟩ :=
  ⟨(h.below.setCell (Nat.le_refl _) _).setCell (Nat.le_refl _) _, (h.has.set_ 2 (.string k)).set_ 3 (.bool false)⟩

set_option maxRecDepth 100000 in
set_option maxHeartbeats 3200000 in
theorem rinterval_any (A : Option Addr) (l : List Nd) (c : Nat) (id : Int) (w : World) (hl : Nds w w.heap.size A l) (hn : l.length ≤ 100000) (hwd : ∀ x ∈ l, x.word < 4294967296) :
    Calls Tryd.prog 56 #[.slice A l.length c, .int .i64 id] w fun e w' => e = .returned (.tuple #[(ivR l id).val, .bool (rkB l id)]) ∧ Below w.heap.size w w' := by
  have hb0 := (Below.refl w.heap.size w).alloc (Nat.le_refl _) (.cells #[.string ByteArray.empty, .bool false, .string ByteArray.empty, .bool false] 74)
  have HX := Lib.hid (Has.new w 74 #[.string ByteArray.empty, .bool false, .string ByteArray.empty, .bool false])
  have HR := Lib.hid (rrank_any A l c id _ ((hl.below hb0).more hb0.size) hn hwd)
  have HS := Lib.hid (fun (w1 : World) (k : Below w.heap.size w w1) => rsort_any A l c w1 ((hl.below k).more k.size) hn)
  have HB0 := Lib.hid hb0
  clear hb0
  cases hk : rkB l id
  · have e1 : ivR l id = Rg.zero := by unfold ivR; rw [hk]; rfl
    have e2 : rkN l id = 0 := by unfold rkN; rw [hk]; rfl
    rw [e1]
    rw [hk, e2] at HR
    clear hk e1 e2 HS hl
    go_enter Tryd.func56, Tryd.ntmps56
    go_wp2_with fail
    refine (HR.out).mono ?_
    rintro e w1 ⟨rfl, hb⟩
    have X1 := HX.out.below hb
    have x0 := X1.cell 0
    have x1 := X1.cell 1
    have x2 := X1.cell 2
    have x3 := X1.cell 3
    have z := fun o => X1.frozen o
    have HB1 := Lib.hid (HB0.out.trans (hb.mono HB0.out.size))
    clear hb X1
    go_wp2_with fail
    refine bodyPost_ret (v := .tuple #[.agg #[.string ⟨#[]⟩, .bool false, .string ⟨#[]⟩, .bool false], .bool false]) (by simp [results, Tryd.results56, go_sem, *]) rfl ⟨rfl, ?_⟩
    exact (((HB1.out.setCell (Nat.le_refl _) _).setCell (Nat.le_refl _) _).setCell (Nat.le_refl _) _).setCell (Nat.le_refl _) _
  · have hc : chkV l = 0 := by
      simp [rkB] at hk
      exact hk.1
    have hp : plc (srt l) id < (srt l).length := by
      simp [rkB] at hk
      exact hk.2
    have e1 : ivR l id = ivlAt (srt l) (plc (srt l) id) := by unfold ivR; rw [hk]; rfl
    have e2 : rkN l id = plc (srt l) id := by unfold rkN; rw [hk]; rfl
    have HE : Hid (∀ s, Srt l s → s = srt l) := Lib.hid fun s h => srt_of h (chkV_zero.1 hc).2.2
    have HN : Hid ((srt l).length ≤ 64) := Lib.hid (by rw [(srt_srt l).len]; exact (chkV_zero.1 hc).1)
    rw [e1]
    rw [hk, e2] at HR
    clear hk e1 e2 hc hl
    generalize srt l = S at *
    generalize plc S id = k at *
    obtain ⟨R, hR⟩ : ∃ R, R = ivlAt S k := ⟨_, rfl⟩
    rw [← hR]
    have HRR := Lib.hid hR
    clear hR
    go_enter Tryd.func56, Tryd.ntmps56
    go_wp2_with fail
    refine (HR.out).mono ?_
    rintro e w1 ⟨rfl, hb⟩
    have HX1 := Lib.hid (HX.out.below hb)
    have HB1 := Lib.hid (HB0.out.trans (hb.mono HB0.out.size))
    clear hb HX HB0 HR
    go_wp2_with fail
    refine (HS.out _ HB1.out).mono ?_
    rintro e w2 ⟨s, hs, A2, c2, rfl, ho, hb2⟩
    obtain rfl := HE.out s hs.srt
    obtain ⟨_, _, er, hr⟩ := ho.read
    injection er with ea _ eb
    subst ea eb
    have HX2 := Lib.hid (HX1.out.below hb2)
    have HB2 := Lib.hid (HB1.out.trans (hb2.mono HB1.out.size))
    have hlt2 : w.heap.size < w2.heap.size := HX2.out.lt
    clear hb2 ho hs HX1 HB1 HE HS
    obtain ⟨b, o, hA, hbl, _, g2, _⟩ := hr.at_ hp
    subst hA
    have HK1 : Hid (∀ h : k + 1 < s.length, w2.cell? ⟨b, o + (k + 1) * 3 + 1, none⟩ = some (.string s[k + 1].key)) := Lib.hid fun h => by
      obtain ⟨b2, o2, hA2, _, _, q2, _⟩ := hr.at_ h
      injection hA2 with hA2
      injection hA2 with e1 e2
      subst e1 e2
      exact q2
    have HKA := Lib.hid (keyAt_lt hp)
    generalize s[k].key = kk at *
    have hi0 : (0 : Int) ≤ (k : Int) := by omega
    have hi1 : (k : Int) < (s.length : Int) := by omega
    clear hr
    have hb3 := (Below.refl w2.heap.size w2).alloc (Nat.le_refl _) (.cells #[.string kk, .bool false, .string ⟨#[]⟩, .bool true] 74)
    have HY3 := Has.new w2 74 #[.string kk, .bool false, .string ⟨#[]⟩, .bool true]
    have HM3 : Hid (RgAt w2 (w2.alloc (.cells #[.string kk, .bool false, .string ⟨#[]⟩, .bool true] 74)) ⟨⟨kk, false⟩, ⟨ByteArray.empty, true⟩⟩) := Lib.hid ⟨hb3, HY3⟩
    have HM0 : Hid (RgAt w2 (w2.alloc (.cells #[.string ⟨#[]⟩, .bool false, .string ⟨#[]⟩, .bool true] 74)) ⟨⟨ByteArray.empty, false⟩, ⟨ByteArray.empty, true⟩⟩) := Lib.hid ⟨(Below.refl w2.heap.size w2).alloc (Nat.le_refl _) _, Has.new w2 74 #[.string ⟨#[]⟩, .bool false, .string ⟨#[]⟩, .bool true]⟩
    clear hb3 HY3
    obtain ⟨lo, hlo⟩ : ∃ lo, lo = if k = 0 then ByteArray.empty else kk := ⟨_, rfl⟩
    have HLO := Lib.hid hlo
    clear hlo
    go_upto_if 30 with fail
    go_cut [9] (fun s9 wx => s9 = .pointer (some ⟨w2.heap.size, 0, none⟩) ∧ RgAt w2 wx ⟨⟨lo, false⟩, ⟨ByteArray.empty, true⟩⟩)
    case first =>
      by_cases h0 : k = 0
      · have HE0 : Hid (lo = ByteArray.empty) := Lib.hid (by rw [HLO.out, if_pos h0])
        have h0z : ((k : Int) == 0) = true := by simp [h0]
        clear h0 HLO HKA HRR HK1
        go_wp2_with fail
        go_meet
        exact ⟨rfl, by rw [HE0.out]; exact HM0.out⟩
      · have h0z : ((k : Int) == 0) = false := by simp; omega
        have HE0 : Hid (lo = kk) := Lib.hid (by rw [HLO.out, if_neg h0])
        clear h0 HLO HKA HRR HK1
        go_wp2_with fail
        go_meet
        exact ⟨rfl, by rw [HE0.out]; exact HM3.out⟩
    case rest =>
      obtain ⟨rfl, HM⟩ := hcut
      have HKL : Hid (lo = (if k = 0 then ByteArray.empty else keyAt s k)) := Lib.hid (by rw [HLO.out, HKA.out])
      clear HLO HM0
      clear HKA HM3 g2
      have HMH := Lib.hid HM
      have fz := HM.has.frozen
      clear HM
      have hn64 := HN.out
      have hk64 : k < 100 := by omega
      go_upto_if 37 with fail
      go_cut [9] (fun s9 wx => s9 = .pointer (some ⟨w2.heap.size, 0, none⟩) ∧ RgAt w2 wx R)
      case first =>
        by_cases h1 : k + 1 < s.length
        · have h1z : (k : Int) + 1 < (s.length : Int) := by omega
          have i0 : (0 : Int) ≤ (k : Int) + 1 := by omega
          have q2 := (HMH.out.below.cell (p := ⟨b, o + (k + 1) * 3 + 1, none⟩) hbl).trans (HK1.out h1)
          have HRE : Hid (R = ⟨⟨lo, false⟩, ⟨s[k + 1].key, false⟩⟩) := Lib.hid (by rw [HRR.out]; unfold ivlAt; rw [if_pos h1, keyAt_lt h1, HKL.out])
          generalize s[k + 1].key = kn at *
          clear h1 HK1
          have q3 := HMH.out.has.cell 2
          have q4 := HMH.out.has.cell 3
          go_wp2_with fail
          go_meet
          exact ⟨rfl, by rw [HRE.out]; exact HMH.out.hi _⟩
        · have h1z : ¬ (k : Int) + 1 < (s.length : Int) := by omega
          have HRE : Hid (R = ⟨⟨lo, false⟩, ⟨ByteArray.empty, true⟩⟩) := Lib.hid (by rw [HRR.out]; unfold ivlAt; rw [if_neg h1, HKL.out])
          clear h1 HK1
          go_wp2_with fail
          go_meet
          exact ⟨rfl, by rw [HRE.out]; exact HMH.out⟩
      case rest =>
        obtain ⟨rfl, HM⟩ := hcut
        have x0 := HM.has.cell 0
        have x1 := HM.has.cell 1
        have x2 := HM.has.cell 2
        have x3 := HM.has.cell 3
        have X1 := HX2.out.below HM.below
        have z := fun o => X1.frozen o
        have y0 := X1.cell 0
        have y1 := X1.cell 1
        have y2 := X1.cell 2
        have y3 := X1.cell 3
        have HB1 := Lib.hid (HB2.out.trans (HM.below.mono HB2.out.size))
        obtain ⟨⟨Rlk, Rlt⟩, ⟨Rhk, Rht⟩⟩ := R
        clear X1 HM HMH fz HRR HK1
        go_wp2_with fail
        refine bodyPost_ret (v := .tuple #[.agg #[.string Rlk, .bool Rlt, .string Rhk, .bool Rht], .bool true]) (by simp [results, Tryd.results56, go_sem, *]) rfl ⟨rfl, ?_⟩
        exact (((HB1.out.setCell (Nat.le_refl _) _).setCell (Nat.le_refl _) _).setCell (Nat.le_refl _) _).setCell (Nat.le_refl _) _

/-- A node that lies in the newest cells, and nothing else changed. -/
structure NdAt (w2 wx : World) (x : Nd) : Prop where
  below : Below w2.heap.size w2 wx
  has : Has wx w2.heap.size 60 #[.int .i64 x.id, .string x.key, .int .u32 (x.word : Int)]
theorem NdAt.put {w2 wx : World} {x : Nd} (h : NdAt w2 wx x) (y : Nd) : NdAt w2 (((wx.setCell ⟨w2.heap.size, 0, none⟩ (.int .i64 y.id)).setCell ⟨w2.heap.size, 1, none⟩ (.string y.key)).setCell ⟨w2.heap.size, 2, none⟩ (.int .u32 (y.word : Int))) y :=
  ⟨((h.below.setCell (Nat.le_refl _) _).setCell (Nat.le_refl _) _).setCell (Nat.le_refl _) _, ((h.has.set_ 0 (.int .i64 y.id)).set_ 1 (.string y.key)).set_ 2 (.int .u32 (y.word : Int))⟩
theorem leq_kl (a b : ByteArray) : (Op.bytesLess a.toList b.toList || a.toList == b.toList) = !kl b a := by
  have := gt_kl a b
  rw [← this]
  cases h1 : Op.bytesLess a.toList b.toList <;> cases h2 : (a.toList == b.toList) <;> rfl

set_option maxRecDepth 100000 in
set_option maxHeartbeats 3200000 in
theorem rowner_any (A : Option Addr) (l : List Nd) (c : Nat) (key : ByteArray) (w : World) (hl : Nds w w.heap.size A l) (hn : l.length ≤ 100000) (hwd : ∀ x ∈ l, x.word < 4294967296) :
    Calls Tryd.prog 54 #[.slice A l.length c, .string key] w fun e w' => e = .returned (.tuple #[(owN l key).val, .bool (owB l key)]) ∧ Below w.heap.size w w' := by
  have hb0 := (Below.refl w.heap.size w).alloc (Nat.le_refl _) (.cells #[.int .i64 0, .string ByteArray.empty, .int .u32 0] 60)
  have HX := Lib.hid (Has.new w 60 #[.int .i64 0, .string ByteArray.empty, .int .u32 0])
  have HI := Lib.hid (ris_any A l c _ ((hl.below hb0).more hb0.size) hwd)
  have HS := Lib.hid (fun (w1 : World) (k : Below w.heap.size w w1) => rsort_any A l c w1 ((hl.below k).more k.size) hn)
  have HV := Lib.hid (fun w1 => vk_ref key w1)
  have HB0 := Lib.hid hb0
  obtain ⟨L, hL⟩ : ∃ L, L = l.length := ⟨_, rfl⟩
  by_cases hb : owB l key = true
  · have hc : chkV l = 0 := by
      simp [owB] at hb
      exact hb.1
    have h0 : 0 < l.length := by
      simp only [owB, Bool.and_eq_true, decide_eq_true_eq] at hb
      exact hb.2.1
    have hk : vk key = true := by
      simp only [owB, Bool.and_eq_true, decide_eq_true_eq] at hb
      exact hb.2.2
    have hz : (chkV l == 0) = true := by simpa using hc
    have e1 : owN l key = ownV (srt l) key := by unfold owN; rw [hb]; rfl
    have HE : Hid (∀ s, Srt l s → s = srt l) := Lib.hid fun s h => srt_of h (chkV_zero.1 hc).2.2
    have hsl : (srt l).length = l.length := (srt_srt l).len
    have HASC := Lib.hid (ros_of hc).asc
    have hs64 : (srt l).length ≤ 64 := by rw [hsl]; exact (chkV_zero.1 hc).1
    have hs1 : 0 < (srt l).length := by omega
    have hl0 : ((L : Int) == 0) = false := by simp; omega
    rw [hb, e1]
    rw [hz] at HI
    rw [← hL] at HI HS ⊢
    clear hsl hb e1 hc hz h0 hL hb0
    rw [hk] at HV
    generalize srt l = S at *
    obtain ⟨V, hV⟩ : ∃ V, V = ownV S key := ⟨_, rfl⟩
    rw [← hV]
    have HVV := Lib.hid hV
    clear hV hl
    go_enter Tryd.func54, Tryd.ntmps54
    go_wp2_with fail
    refine (HI.out).mono ?_
    rintro e w1 ⟨rfl, hb1⟩
    have HX1 := Lib.hid (HX.out.below hb1)
    have HB1 := Lib.hid (HB0.out.trans (hb1.mono HB0.out.size))
    clear hb1 HX HB0 HI
    go_wp2_with fail
    refine (HV.out _).mono ?_
    rintro e w1' ⟨rfl, rfl⟩
    go_wp2_with fail
    refine (HS.out _ HB1.out).mono ?_
    rintro e w2 ⟨s, hs, A2, c2, rfl, ho, hb2⟩
    obtain rfl := HE.out s hs.srt
    obtain ⟨_, _, er, hr⟩ := ho.read
    injection er with ea _ eb
    subst ea eb
    have HX2 := Lib.hid (HX1.out.below hb2)
    have HB2 := Lib.hid (HB1.out.trans (hb2.mono HB1.out.size))
    have hlt2 : w.heap.size < w2.heap.size := HX2.out.lt
    clear hb2 ho hs HX1 HB1 HE HS HV
    obtain ⟨b, o, hA, hbl, g1, g2, g3⟩ := hr.at_ hs1
    subst hA
    have hnd := (Below.refl w2.heap.size w2).alloc (Nat.le_refl _) (.cells #[.int .i64 s[0].id, .string s[0].key, .int .u32 (s[0].word : Int)] 60)
    have HM0 : NdAt w2 (w2.alloc (.cells #[.int .i64 s[0].id, .string s[0].key, .int .u32 (s[0].word : Int)] 60)) s[0] := ⟨hnd, Has.new w2 60 _⟩
    have HM1 : Hid (NdAt w2 (w2.alloc (.cells #[.int .i64 s[0].id, .string s[0].key, .int .u32 (s[0].word : Int)] 60)) ((s[Nat.min 0 (abv s key) - 1]?).getD Nd.none)) := Lib.hid (by
      have e : Nat.min 0 (abv s key) - 1 = 0 := by simp
      rw [e, List.getElem?_eq_getElem hs1]
      exact HM0)
    simp only [Nat.zero_mul, Nat.add_zero] at g1 g2 g3
    clear HM0 hnd
    generalize s[0].id = yi at *
    generalize s[0].key = yk at *
    generalize s[0].word = yw at *
    have i1 : (0 : Int) < (s.length : Int) := by omega
    have HR := Lib.hid hr
    clear hr
    obtain ⟨q, hq⟩ : ∃ q, q = abv s key := ⟨_, rfl⟩
    rw [← hq] at HM1
    have HQ := Lib.hid hq
    clear hq
    go_wp2_with fail
    go_loopw [8] (fun vi wr => ∃ k : Nat, vi = .int .i64 (k : Int) ∧ k ≤ s.length ∧ NdAt w2 wr ((s[Nat.min k q - 1]?).getD Nd.none)) (fun vi _ => s.length - (intOf vi).toNat)
    case atStart => exact ⟨0, rfl, Nat.zero_le _, HM1.out⟩
    case round =>
      clear HM1 g1 g2 g3
      obtain ⟨k, rfl, hkl, HM⟩ := hrel
      by_cases hlt : k < s.length
      · obtain ⟨b2, o2, hA2, _, f1, f2, f3⟩ := HR.out.at_ hlt
        injection hA2 with hA2
        injection hA2 with ea eb
        subst ea eb
        have F1 := (HM.below.cell (p := ⟨b, o + k * 3, none⟩) hbl).trans f1
        have F2 := (HM.below.cell (p := ⟨b, o + k * 3 + 1, none⟩) hbl).trans f2
        have F3 := (HM.below.cell (p := ⟨b, o + k * 3 + 2, none⟩) hbl).trans f3
        have HASK := Lib.hid (ask_kl HASC.out key hlt)
        have HGET : Hid ((s[k]?).getD Nd.none = s[k]) := Lib.hid (by rw [List.getElem?_eq_getElem hlt]; rfl)
        generalize s[k] = y at *
        obtain ⟨zi, zk, zw⟩ := y
        have j0 : (0 : Int) ≤ (k : Int) := by omega
        have j1 : (k : Int) < (s.length : Int) := by omega
        clear f1 f2 f3
        by_cases hkq : k < q
        · have hkl2 : kl key zk = false := by rw [HASK.out, ← HQ.out]; simpa using hkq
          have t1 : (Op.bytesLess zk.toList key.toList || zk.toList == key.toList) = true := by rw [leq_kl, hkl2]; rfl
          have hmin : Nat.min (k + 1) q - 1 = k := by rw [show Nat.min (k + 1) q = min (k + 1) q from rfl]; omega
          have HP : Hid (∀ W, NdAt w2 W ⟨zi, zk, zw⟩ → NdAt w2 W ((s[Nat.min (k + 1) q - 1]?).getD Nd.none)) := Lib.hid fun W h => by rw [hmin, HGET.out]; exact h
          have x0 := HM.has.cell 0
          have x1 := HM.has.cell 1
          have x2 := HM.has.cell 2
          have xz := HM.has.frozen
          have HMH := Lib.hid HM
          clear HM hkl2 hmin HGET hkq
          generalize (s[Nat.min k q - 1]?).getD Nd.none = B at *
          obtain ⟨Bi, Bk, Bw⟩ := B
          go_wp2_with fail
          exact ⟨⟨k + 1, by go_num, hlt, HP.out _ (HMH.out.put ⟨zi, zk, zw⟩)⟩, by simp [intOf]; omega⟩
        · have hkl2 : kl key zk = true := by rw [HASK.out, ← HQ.out]; simp; omega
          have t1 : (Op.bytesLess zk.toList key.toList || zk.toList == key.toList) = false := by rw [leq_kl, hkl2]; rfl
          have hmin : Nat.min (k + 1) q - 1 = Nat.min k q - 1 := by rw [show Nat.min (k + 1) q = min (k + 1) q from rfl, show Nat.min k q = min k q from rfl]; omega
          have HP : Hid (∀ W, NdAt w2 W ((s[Nat.min k q - 1]?).getD Nd.none) → NdAt w2 W ((s[Nat.min (k + 1) q - 1]?).getD Nd.none)) := Lib.hid fun W h => by rw [hmin]; exact h
          have HMH := Lib.hid HM
          clear HM hkl2 hmin HGET hkq
          go_wp2_with fail
          exact ⟨⟨k + 1, by go_num, hlt, HP.out _ HMH.out⟩, by simp [intOf]; omega⟩
      · have j1 : ¬ (k : Int) < (s.length : Int) := by omega
        have hmin : Nat.min k q - 1 = abv s key - 1 := by
          have := abv_le s key
          rw [← HQ.out, show Nat.min k q = min k q from rfl]
          have := HQ.out
          omega
        rw [hmin] at HM
        have HVE : Hid ((s[abv s key - 1]?).getD Nd.none = V) := Lib.hid (by rw [HVV.out]; rfl)
        rw [HVE.out] at HM
        have x0 := HM.has.cell 0
        have x1 := HM.has.cell 1
        have x2 := HM.has.cell 2
        have X1 := HX2.out.below HM.below
        have z := fun o => X1.frozen o
        have y0 := X1.cell 0
        have y1 := X1.cell 1
        have y2 := X1.cell 2
        have HB1 := Lib.hid (HB2.out.trans (HM.below.mono HB2.out.size))
        obtain ⟨Vi, Vk, Vw⟩ := V
        clear X1 HM HVE HVV HQ HR hmin
        go_wp2_with fail
        refine bodyPost_ret (v := .tuple #[.agg #[.int .i64 Vi, .string Vk, .int .u32 (Vw : Int)], .bool true]) (by simp [results, Tryd.results54, go_sem, *]) rfl ⟨rfl, ?_⟩
        exact ((HB1.out.setCell (Nat.le_refl _) _).setCell (Nat.le_refl _) _).setCell (Nat.le_refl _) _
  · have hb : owB l key = false := by simpa using hb
    have e1 : owN l key = Nd.none := by unfold owN; rw [hb]; rfl
    rw [hb, e1]
    rw [← hL] at HI ⊢
    by_cases hc : chkV l = 0
    · have hz : (chkV l == 0) = true := by simpa using hc
      rw [hz] at HI
      by_cases h0 : L = 0
      · subst h0
        clear hb e1 hL hc hz hl HS
        go_enter Tryd.func54, Tryd.ntmps54
        go_wp2_with fail
        refine (HI.out).mono ?_
        rintro e w1 ⟨rfl, hb1⟩
        have X4 := HX.out.below hb1
        have g0 := X4.cell 0
        have g1 := X4.cell 1
        have g2 := X4.cell 2
        have gz := fun o => X4.frozen o
        have HB4 := Lib.hid (HB0.out.trans (hb1.mono HB0.out.size))
        clear X4 hb1
        go_wp2_with fail
        refine bodyPost_ret (v := .tuple #[.agg #[.int .i64 0, .string ⟨#[]⟩, .int .u32 0], .bool false]) (by simp [results, Tryd.results54, go_sem, *]) rfl ⟨rfl, ?_⟩
        exact ((HB4.out.setCell (Nat.le_refl _) _).setCell (Nat.le_refl _) _).setCell (Nat.le_refl _) _
      · have hk : vk key = false := by
          have h0' : 0 < l.length := by omega
          simp only [owB, hc, h0', decide_true, Bool.true_and] at hb
          exact hb
        rw [hk] at HV
        have hl0 : ((L : Int) == 0) = false := by simp; omega
        clear hb e1 hL hc hz hl h0 HS
        go_enter Tryd.func54, Tryd.ntmps54
        go_wp2_with fail
        refine (HI.out).mono ?_
        rintro e w1 ⟨rfl, hb1⟩
        go_wp2_with fail
        refine (HV.out _).mono ?_
        rintro e w1' ⟨rfl, rfl⟩
        have X4 := HX.out.below hb1
        have g0 := X4.cell 0
        have g1 := X4.cell 1
        have g2 := X4.cell 2
        have gz := fun o => X4.frozen o
        have HB4 := Lib.hid (HB0.out.trans (hb1.mono HB0.out.size))
        clear X4 hb1
        go_wp2_with fail
        refine bodyPost_ret (v := .tuple #[.agg #[.int .i64 0, .string ⟨#[]⟩, .int .u32 0], .bool false]) (by simp [results, Tryd.results54, go_sem, *]) rfl ⟨rfl, ?_⟩
        exact ((HB4.out.setCell (Nat.le_refl _) _).setCell (Nat.le_refl _) _).setCell (Nat.le_refl _) _
    · have hz : (chkV l == 0) = false := by simpa using hc
      rw [hz] at HI
      clear hb e1 hL hc hz hl HS
      go_enter Tryd.func54, Tryd.ntmps54
      go_wp2_with fail
      refine (HI.out).mono ?_
      rintro e w1 ⟨rfl, hb1⟩
      have X4 := HX.out.below hb1
      have g0 := X4.cell 0
      have g1 := X4.cell 1
      have g2 := X4.cell 2
      have gz := fun o => X4.frozen o
      have HB4 := Lib.hid (HB0.out.trans (hb1.mono HB0.out.size))
      clear X4 hb1
      go_wp2_with fail
      refine bodyPost_ret (v := .tuple #[.agg #[.int .i64 0, .string ⟨#[]⟩, .int .u32 0], .bool false]) (by simp [results, Tryd.results54, go_sem, *]) rfl ⟨rfl, ?_⟩
      exact ((HB4.out.setCell (Nat.le_refl _) _).setCell (Nat.le_refl _) _).setCell (Nat.le_refl _) _
end Go.Proofs.YtiafimbehcemcaaDoor
