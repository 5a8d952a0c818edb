/-
  Prefix of package keyspace: what it answers for whatever string, in every world; it only makes memory. No condition.
-/
import Derived.Test.YtlnmpiigmedgkaaDoorKsA
import Derived.Test.YtlnmpiigmedgkaaDoorKsR
import Derived.Laws.IdiomStrings
namespace Go.Proofs.YtlnmpiigmedgkaaDoor
open Go.RowKit

theorem drop_all {l : List UInt8} {m : Nat} (hm : m < l.length) (h : aft (l.drop (m + 1)) = none) (k : l[m] = 255) : aft (l.drop m) = none := by
  rw [List.drop_eq_getElem_cons hm, k]; exact aft_all h
theorem drop_last {l : List UInt8} {m : Nat} (hm : m < l.length) (h : aft (l.drop (m + 1)) = none) (k : l[m] ≠ 255) : aft l = some (l.take m ++ [l[m] + 1]) := by
  conv => lhs; rw [← List.take_append_drop m l, List.drop_eq_getElem_cons hm]
  exact aft_last h k

theorem extract_take (s : ByteArray) (n : Nat) : (s.extract 0 n).data.toList = s.data.toList.take n := by
  rw [ByteArray.data_extract, Array.toList_extract]
  simp
theorem conv_any (W : World) (s : ByteArray) (n : Nat) (hn : s.size = n) : ∃ (cap : Nat) (C : Array Value) (fr : Nat × Nat), (convert 9 58 (.string s)).run Tryd.prog W = .ok (.slice (some ⟨W.heap.size, 0, none⟩) n cap) (W.drew.alloc (.cells C 5 fr)) ∧
    (∀ j, j < n → C[j]? = some (.int .u8 ((s.data.toList.getD j 0).toNat : Int))) ∧ (∀ j, j < n → (decide (fr.1 ≤ j) && decide (j < fr.2)) = false) := by
  have h := run_bytes_of_string (P := Tryd.prog) W 9 58 5 s Tryd.underlying9 Tryd.underlying58 Tryd.underlying5
  subst hn
  have hsz : (bytesRow s (grownCap W s.size 0 5)).size = s.size + (grownCap W s.size 0 5 - s.size) := by
    unfold bytesRow
    rw [Array.size_append, Array.size_map, Array.size_replicate]
    rfl
  refine ⟨_, _, _, h, fun j hj => ?_, fun j hj => ?_⟩
  · have h1 : j < (s.data.map (fun b => Value.int .u8 b.toNat)).size := by rw [Array.size_map]; exact hj
    unfold bytesRow
    rw [Array.getElem?_append_left h1, Array.getElem?_map]
    have h2 : s.data[j]? = some (s.data.toList.getD j 0) := by
      rw [List.getD_eq_getElem?_getD, List.getElem?_eq_getElem (show j < s.data.toList.length from hj), ← Array.getElem?_toList, List.getElem?_eq_getElem (show j < s.data.toList.length from hj)]
      rfl
    rw [h2]
    rfl
  · simp only [hsz]
    rw [decide_eq_false (by omega)]
    rfl

theorem cell_new_set (W : World) (C : Array Value) (t : TypeId) (fr : Nat × Nat) (i : Nat) (v : Value) (j : Nat) : ((W.alloc (.cells C t fr)).setCell ⟨W.heap.size, i, none⟩ v).cell? ⟨W.heap.size, j, none⟩ = (C.setIfInBounds i v)[j]? := by
  have h : ((W.alloc (.cells C t fr)).setCell ⟨W.heap.size, i, none⟩ v).heap[W.heap.size]? = some (.cells (C.setIfInBounds i v) t fr) := by
    have h0 : (W.alloc (.cells C t fr)).heap[W.heap.size]? = some (.cells C t fr) := by
      show (W.heap.push (.cells C t fr))[W.heap.size]? = _
      simp
    unfold World.setCell
    show (Array.modify _ _ _)[W.heap.size]? = _
    rw [Array.getElem?_modify, if_pos rfl, h0]
    rfl
  exact cell_of_row _ _ _ _ _ _ h

theorem back_any (W : World) (C : Array Value) (fr : Nat × Nat) (l : List UInt8) (m cap : Nat) (hm : m < l.length) (hC : ∀ j, j < m + 1 → C[j]? = some (.int .u8 ((l.getD j 0).toNat : Int))) :
    ∃ r : ByteArray, r.data.toList = l.take m ++ [l[m] + 1] ∧
      (convert 58 9 (.slice (some ⟨W.heap.size, 0, none⟩) (m + 1) cap)).run Tryd.prog ((W.alloc (.cells C 5 fr)).setCell ⟨W.heap.size, m, none⟩ (.int .u8 (((l.getD m 0).toNat + 1 : Int) % 256))).drew =
        .ok (.string r) ((W.alloc (.cells C 5 fr)).setCell ⟨W.heap.size, m, none⟩ (.int .u8 (((l.getD m 0).toNat + 1 : Int) % 256))).drew := by
  have hlen : (l.take m ++ [l[m] + 1]).length = m + 1 := by simp; omega
  have hgm : l.getD m 0 = l[m] := by rw [List.getD_eq_getElem?_getD, List.getElem?_eq_getElem hm]; rfl
  have h := run_convert_bytes_back (P := Tryd.prog) ((W.alloc (.cells C 5 fr)).setCell ⟨W.heap.size, m, none⟩ (.int .u8 (((l.getD m 0).toNat + 1 : Int) % 256))).drew 58 9 5 ⟨W.heap.size, 0, none⟩ cap (l.take m ++ [l[m] + 1])
    Tryd.underlying58 Tryd.underlying5 Tryd.underlying9 (fun j hj => by
      have e : Addr.add ⟨W.heap.size, 0, none⟩ j = ⟨W.heap.size, j, none⟩ := by
        unfold Addr.add
        by_cases h0 : j = 0 <;> simp [h0]
      rw [e]
      have hc := cell_new_set W C 5 fr m (.int .u8 (((l.getD m 0).toNat + 1 : Int) % 256)) j
      refine Eq.trans hc ?_
      have hCs : m < C.size := by
        have := hC m (by omega)
        exact (Array.getElem?_eq_some_iff.1 this).1
      by_cases hjm : j = m
      · subst hjm
        rw [Array.getElem?_setIfInBounds_self_of_lt hCs]
        have : (l.take j ++ [l[j] + 1])[j] = l[j] + 1 := List.getElem_concat_length (by simp; omega) _
        rw [this, hgm, UInt8.toNat_add]
        have h1 : (1 : UInt8).toNat = 1 := rfl
        rw [h1]
        congr 2
      · have hj2 : j < m := by omega
        rw [Array.getElem?_setIfInBounds_ne (by omega), hC j (by omega)]
        have : (l.take m ++ [l[m] + 1])[j] = l[j]'(by omega) := by rw [List.getElem_append_left (by simp; omega), List.getElem_take]
        rw [this, List.getD_eq_getElem?_getD, List.getElem?_eq_getElem (by omega)]
        rfl)
  rw [hlen] at h
  exact ⟨⟨(l.take m ++ [l[m] + 1]).toArray⟩, rfl, h⟩

def AftP (p : ByteArray) (w : World) (e : Ending) (w' : World) : Prop := e = .returned (aftB p).val ∧ Below w.heap.size w w'

set_option maxRecDepth 100000 in
set_option maxHeartbeats 3200000 in
theorem after_key (p : ByteArray) (hp : p.size ≤ 64) (w : World) :
    Calls Tryd.prog 127 #[.string p] w (AftP p w) := by
  have hI := (Inv.nil w).add 49 #[.string ByteArray.empty, .bool false]
  have H64 := Lib.hid (show aft (p.data.toList.drop p.size) = none by rw [List.drop_eq_nil_of_le (show p.data.toList.length ≤ p.size from Nat.le_refl _)]; rfl)
  go_enter Tryd.func127, Tryd.ntmps127
  go_wp2_with fail
  go_loop [3] (fun n => ∃ k : Nat, k ≤ p.size ∧ n = .int .i64 k ∧ Hid (aft (p.data.toList.drop k) = none)) (fun n => (intOf n).toNat)
  case atStart => exact ⟨p.size, Nat.le_refl _, rfl, H64⟩
  case round =>
    obtain ⟨k, hk, rfl, HA⟩ := hrel
    cases k with
    | zero =>
      go_wp2
      refine bodyPost_ret (v := .agg #[.string _, .bool _]) (by simp [results, Tryd.results127, go_sem]; exact ⟨rfl, rfl⟩) rfl ⟨?_, (Below.refl _ _).alloc (Nat.le_refl _) _⟩
      have h := HA.out
      rw [List.drop_zero] at h
      unfold aftB
      rw [h]
      rfl
    | succ m =>
      have hm : m < p.size := hk
      have hix : ∀ W : World, (Instr.index 9 (.string p) (.int .i64 ((m : Int) + 1 - 1))).run Tryd.prog W = .ok (.int .u8 (p[m].toNat : Int)) W := fun W => by
        rw [run_index_string _ _ _ _ _ Tryd.underlying9, dif_pos (by omega)]
        have e : ((m : Int) + 1 - 1).toNat = m := by omega
        simp only [e]
      have hg : (p[m].toNat : Int) = ((p.data.toList.getD m 0).toNat : Int) := by
        rw [List.getD_eq_getElem?_getD, List.getElem?_eq_getElem (show m < p.data.toList.length from hm)]
        rfl
      rw [hg] at hix
      obtain ⟨c, hc⟩ : ∃ c : Int, c = ((p.data.toList.getD m 0).toNat : Int) := ⟨_, rfl⟩
      rw [← hc] at hix
      have HC := Lib.hid hc
      have HM := Lib.hid hm
      have hc' := hc
      clear hc hg
      obtain ⟨z, hz⟩ : ∃ z : Int, z = ((m + 1 : Nat) : Int) := ⟨_, rfl⟩
      rw [← hz]
      have e1 : (m : Int) + 1 - 1 = z - 1 := by omega
      rw [e1] at hix
      have z1 : 1 ≤ z := by omega
      have z2 : z ≤ 64 := by omega
      have z3 : z ≤ (p.size : Int) := by omega
      have z4 : z ≤ (m : Int) + 1 := by omega
      have z5 : (m : Int) + 1 ≤ z := by omega
      have hss : (p.extract 0 z.toNat).size = m + 1 := by rw [ByteArray.size_extract]; omega
      obtain ⟨cap, C, ⟨f1, f2⟩, hrun, hC, hF⟩ := conv_any (w.alloc (.cells #[.string ⟨#[]⟩, .bool false] 49)) (p.extract 0 z.toNat) _ hss
      simp only [World.size_alloc] at hrun
      have hzm : z.toNat - 1 = m := by omega
      have hlen : m < p.data.toList.length := hm
      have hCp : ∀ j, j < m + 1 → C[j]? = some (.int .u8 ((p.data.toList.getD j 0).toNat : Int)) := fun j hj => by
        rw [hC j hj]
        have : (p.extract 0 z.toNat).data.toList = p.data.toList.take (m + 1) := by
          have : z.toNat = m + 1 := by omega
          rw [this, extract_take]
        rw [this, List.getD_eq_getElem?_getD, List.getD_eq_getElem?_getD, List.getElem?_take_of_lt hj]
      obtain ⟨r, hr, hback⟩ := back_any (w.alloc (.cells #[.string ⟨#[]⟩, .bool false] 49)) C (f1, f2) p.data.toList m cap hlen hCp
      have hcell : ((w.alloc (.cells #[.string ⟨#[]⟩, .bool false] 49)).alloc (.cells C 5 (f1, f2))).cell? ⟨w.heap.size + 1, z.toNat - 1, none⟩ = some (.int .u8 c) := by
        have h := World.cell?_alloc_mark (w.alloc (.cells #[.string ⟨#[]⟩, .bool false] 49)) C 5 (f1, f2) m
        rw [World.size_alloc] at h
        rw [hzm, hc']
        exact h.trans (hCp m (by omega))
      have hfz : ((w.alloc (.cells #[.string ⟨#[]⟩, .bool false] 49)).alloc (.cells C 5 (f1, f2))).frozen? ⟨w.heap.size + 1, z.toNat - 1, none⟩ = false := by
        have h := World.frozen?_alloc_mark (w.alloc (.cells #[.string ⟨#[]⟩, .bool false] 49)) C 5 f1 f2 m
        rw [World.size_alloc] at h
        rw [hzm]
        exact h.trans (hF m (by omega))
      simp only [World.size_alloc] at hback
      rw [← hc'] at hback
      have hbk : ∀ o, o = m → (convert 58 9 (.slice (some ⟨w.heap.size + 1, 0, none⟩) (m + 1) cap)).run Tryd.prog (((w.alloc (.cells #[.string ⟨#[]⟩, .bool false] 49)).alloc (.cells C 5 (f1, f2))).setCell ⟨w.heap.size + 1, o, none⟩ (.int .u8 ((c + 1) % 256))).drew = .ok (.string r) (((w.alloc (.cells #[.string ⟨#[]⟩, .bool false] 49)).alloc (.cells C 5 (f1, f2))).setCell ⟨w.heap.size + 1, o, none⟩ (.int .u8 ((c + 1) % 256))).drew := fun o ho => by subst ho; exact hback
      replace hbk := hbk _ hzm
      clear hback
      have HZ := Lib.hid hz
      have HR := Lib.hid (show r.data.toList = p.data.toList.take m ++ [p.data.toList.getD m 0 + 1] by rw [hr, List.getD_eq_getElem?_getD, List.getElem?_eq_getElem hlen]; rfl)
      have HL := Lib.hid hlen
      have h0 : w.heap.size ≠ w.heap.size + 1 := by omega
      have h2 : w.heap.size < w.heap.size + 1 := by omega
      clear hz e1 hC hF hss hCp hzm hc' hr hlen hm hk
      go_wp2_with fail
      · refine ⟨⟨m, Nat.le_of_lt HM.out, by have := HZ.out; congr 1; omega, Lib.hid ?_⟩, by simp [intOf]; omega⟩
        have hb : p.data.toList[m]'HM.out = 255 := by
          have h1 : c = 255 := by simpa using (‹(c == 255) = true›)
          have h2 := HC.out
          rw [List.getD_eq_getElem?_getD, List.getElem?_eq_getElem HM.out] at h2
          have h3 : ((p.data.toList[m]'HM.out).toNat : Int) = 255 := by rw [← h1, h2]; rfl
          have h4 : (p.data.toList[m]'HM.out).toNat = (255 : UInt8).toNat := by
            have : (255 : UInt8).toNat = 255 := rfl
            omega
          exact UInt8.toNat_inj.1 h4
        exact drop_all HM.out HA.out hb
      · refine bodyPost_ret (v := .agg #[.string _, .bool _]) (by simp [results, Tryd.results127, go_sem]; exact ⟨rfl, rfl⟩) rfl ⟨?_, ?_⟩
        · have hb : p.data.toList[m]'HM.out ≠ 255 := fun h => by
            have h1 : (c == 255) = false := ‹_›
            have h2 := HC.out
            rw [List.getD_eq_getElem?_getD, List.getElem?_eq_getElem HM.out] at h2
            have h3 : c = 255 := by rw [h2]; show ((p.data.toList[m]'HM.out).toNat : Int) = 255; rw [h]; rfl
            rw [h3] at h1
            cases h1
          unfold aftB
          rw [drop_last HM.out HA.out hb]
          have h4 := HR.out
          rw [List.getD_eq_getElem?_getD, List.getElem?_eq_getElem HM.out] at h4
          have h5 : r = ⟨(p.data.toList.take m ++ [p.data.toList[m]'HM.out + 1]).toArray⟩ := toList_inj (by rw [toList_data, toList_data, h4]; rfl)
          rw [h5]
        · exact ((((((Below.refl _ _).alloc (Nat.le_refl _) _).alloc (by simp) _).setCell (by simp) _).setCell (by simp) _).setCell (by simp) _).drew
set_option maxHeartbeats 800000 in
theorem pre_key (p : ByteArray) (w : World) :
    Calls Tryd.prog 81 #[.string p] w fun e w' => e = .returned (Rg.pre p).val ∧ Below w.heap.size w w' := by
  have hI := (Inv.nil w).add 51 #[.string ByteArray.empty, .bool false, .string ByteArray.empty, .bool false]
  cases hv : vk p
  · go_enter Tryd.func81, Tryd.ntmps81
    go_wp2_with (go_at_call 74; refine (vk_key _ _).mono ?_; rintro e w' ⟨rfl, rfl⟩)
    refine bodyPost_ret (v := .agg #[.string _, .bool _, .string _, .bool _]) (by simp [results, Tryd.results81, go_sem]; exact ⟨rfl, rfl, rfl, rfl⟩) rfl ⟨?_, ?_⟩
    · unfold Rg.pre
      rw [hv]
      rfl
    · exact (Below.refl _ _).alloc (Nat.le_refl _) _
  · have hp : p.size ≤ 64 := by unfold vk at hv; exact of_decide_eq_true hv
    go_enter Tryd.func81, Tryd.ntmps81
    go_wp2_with (first | (go_at_call 74; refine (vk_key _ _).mono ?_; rintro e w' ⟨rfl, rfl⟩)
                       | (go_at_call 127; refine (after_key _ hp _).mono ?_; rintro e w1 ⟨he2, hb1⟩; replace hI := hI.below hb1; clear hb1; obtain ⟨c0, f0⟩ := hI.hd; generalize hr : aftB p = r at he2; obtain ⟨ak, at'⟩ := r; have R3 := Lib.hid hr; clear hr; subst he2))
    refine bodyPost_ret (v := .agg #[.string _, .bool _, .string _, .bool _]) (by simp [results, Tryd.results81, go_sem, *]; exact ⟨rfl, rfl, rfl, rfl⟩) rfl ⟨?_, (((hI.1.setCell (Nat.le_refl _) _).setCell (Nat.le_refl _) _).setCell (Nat.le_refl _) _).setCell (Nat.le_refl _) _⟩
    unfold Rg.pre
    rw [hv]
    exact congrArg (fun b : Bd => Ending.returned (Rg.val ⟨⟨p, false⟩, b⟩)) R3.out.symm

theorem pre_emp {p : ByteArray} (h : vk p = true) : (Rg.pre p).emp = false := by
  have h1 := pre_has (p := p) (x := p) h
  rw [h] at h1
  have h2 : decide (p.data.toList <+: p.data.toList) = true := decide_eq_true (List.prefix_refl _)
  rw [h2] at h1
  unfold Rg.has at h1
  cases he : (Rg.pre p).emp
  · rfl
  · rw [he] at h1; simp at h1

theorem cmp_le_iff (a b : ByteArray) : Bd.cmp ⟨a, false⟩ ⟨b, false⟩ ≤ 0 ↔ a.data.toList ≤ b.data.toList := by
  have hk : kl b a = true ↔ b.data.toList < a.data.toList := by rw [kl_iff, toList_data, toList_data]
  rw [← List.not_lt, ← hk]
  simp only [Bd.cmp, Bool.false_eq_true, if_false]
  cases h1 : kl a b <;> cases h2 : kl b a <;> simp
  have := kl_asymm h1
  rw [h2] at this
  cases this

theorem vk_int (x : ByteArray) : decide ((x.size : Int) ≤ 64) = vk x := by unfold vk; rw [Bool.eq_iff_iff]; simp; omega

theorem ext_pre {p x : ByteArray} (_h : p.size ≤ x.size) : ((x.extract 0 p.size).toList == p.toList) = decide (p.data.toList <+: x.data.toList) := by
  rw [toList_data, toList_data, extract_take, Bool.eq_iff_iff, beq_iff_eq, decide_eq_true_iff, List.prefix_iff_eq_take]
  exact eq_comm
theorem no_pre {p x : ByteArray} (h : ¬ p.size ≤ x.size) : decide (p.data.toList <+: x.data.toList) = false :=
  decide_eq_false fun k => h k.length_le

theorem vk_int2 (x : ByteArray) : decide (64 < (x.size : Int)) = !vk x := by unfold vk; rw [Bool.eq_iff_iff]; simp; omega

/-- A longer string has a smaller range. -/
theorem pre_sub {p q : ByteArray} (hp : vk p = true) (hq : vk q = true) (hpq : q.data.toList = p.data.toList ++ [97]) : (Rg.pre p).intK (Rg.pre q) = Rg.pre q := by
  have ep := pre_emp hp
  have eq := pre_emp hq
  have kp := emp_false.1 ep
  have kq := emp_false.1 eq
  have l1 : (Rg.pre p).lo = ⟨p, false⟩ := by unfold Rg.pre; rw [if_pos hp]
  have l2 : (Rg.pre q).lo = ⟨q, false⟩ := by unfold Rg.pre; rw [if_pos hq]
  have u1 : (Rg.pre p).hi = aftB p := by unfold Rg.pre; rw [if_pos hp]
  have u2 : (Rg.pre q).hi = aftB q := by unfold Rg.pre; rw [if_pos hq]
  have c1 : (Rg.pre p).lo.cmp (Rg.pre q).lo ≤ 0 := by
    rw [l1, l2, cmp_le_iff, hpq]
    cases h1 : aft p.data.toList with
    | none => exact (aft_none h1 _).2 (List.prefix_append _ _)
    | some u => exact ((aft_some h1 _).2 (List.prefix_append _ _)).1
  have c2 : (Rg.pre q).hi.cmp (Rg.pre p).hi ≤ 0 := by
    rw [u1, u2]
    have h2 : aft q.data.toList = some (p.data.toList ++ [98]) := by
      rw [hpq]
      have := aft_last (l1 := p.data.toList) (l2 := []) (c := 97) rfl (by decide)
      rw [this]
      rfl
    unfold aftB
    rw [h2]
    cases h1 : aft p.data.toList with
    | none => simp [Bd.cmp]
    | some u =>
      refine (cmp_le_iff _ _).2 ?_
      have := ((aft_some h1 (p.data.toList ++ [98])).2 (List.prefix_append _ _)).2
      exact List.le_of_lt this
  have hS : ∀ x ∈ [(Rg.pre p).lo, (Rg.pre p).hi, (Rg.pre q).lo, (Rg.pre q).hi], x.ok = true := by simp [kp.1, kp.2.1, kq.1, kq.2.1]
  generalize hSS : [(Rg.pre p).lo, (Rg.pre p).hi, (Rg.pre q).lo, (Rg.pre q).hi] = S at hS
  have m1 : (Rg.pre p).lo ∈ S := by rw [← hSS]; simp
  have m2 : (Rg.pre p).hi ∈ S := by rw [← hSS]; simp
  have m3 : (Rg.pre q).lo ∈ S := by rw [← hSS]; simp
  have m4 : (Rg.pre q).hi ∈ S := by rw [← hSS]; simp
  have Ip : In S (Rg.pre p) := ⟨m1, m2, (emp_rank hS m1 m2).1 ep⟩
  have Iq : In S (Rg.pre q) := ⟨m3, m4, (emp_rank hS m3 m4).1 eq⟩
  have d1 := rank_cmp hS m1 m3
  have d2 := rank_cmp hS m4 m2
  have lq := Iq.2.2
  have r1 : rank S (Rg.pre p).lo ≤ rank S (Rg.pre q).lo := by have := mt d1.2.2.2; omega
  have r2 : rank S (Rg.pre q).hi ≤ rank S (Rg.pre p).hi := by have := mt d2.2.2.2; omega
  rcases int_spec hS Ip Iq with ⟨k1, k2, k3, k4⟩ | ⟨k1, k2⟩
  · exact rg_ext hS k2 Iq (by omega) (by omega)
  · omega
end Go.Proofs.YtlnmpiigmedgkaaDoor
