/-
  Decode of the reference of chapter 2: as the program says. Conditions: the schema can be read.
-/
import Derived.Test.YtlnmpiigmedgkaaDoorKrD
import Derived.Deep.RegionHeld3
import Derived.OwnWalk
import Derived.Test.YtlnmpiigmedgkaaDoorWrt
namespace Go.Proofs.YtlnmpiigmedgkaaDoor
open Go.RowKit

def tn (d : Bool) (c : UInt8) : UInt8 := if d then neg c else c
def mixD (e : List UInt8) (d : Bool) (k : Nat) : List UInt8 := (e.take k).map (tn d) ++ List.replicate (e.length - k) 0
theorem mixD_len {e : List UInt8} {d : Bool} {k : Nat} (h : k ≤ e.length) : (mixD e d k).length = e.length := by unfold mixD; simp; omega
theorem mixD_set {e : List UInt8} {d : Bool} {k : Nat} (h : k < e.length) : (mixD e d k).set k (tn d e[k]) = mixD e d (k + 1) := by
  unfold mixD
  have hl : ((e.take k).map (tn d)).length = k := by simp; omega
  have hr : List.replicate (e.length - k) (0 : UInt8) = 0 :: List.replicate (e.length - (k + 1)) 0 := by
    rw [show e.length - k = (e.length - (k + 1)) + 1 by omega, List.replicate_succ]
  rw [List.set_append_right _ _ (by omega), hl, Nat.sub_self, hr, List.set_cons_zero, List.take_succ_eq_append_getElem h, List.map_append, List.append_assoc]
  rfl
theorem mixD_zero (e : List UInt8) (d : Bool) : mixD e d 0 = List.replicate e.length 0 := by simp [mixD]
theorem mixD_all {e : List UInt8} {d : Bool} {k : Nat} (h : e.length ≤ k) : mixD e d k = if d then e.map neg else e := by
  unfold mixD
  rw [List.take_of_length_le h, show e.length - k = 0 by omega, List.replicate_zero, List.append_nil]
  cases d
  · show e.map (fun c => if false = true then neg c else c) = e
    simp
  · show e.map (fun c => if true = true then neg c else c) = e.map neg
    simp
theorem made_bytes (n : Nat) : (madeCells (Value.int .u8 0).cells (n * 1)).toList = bv (List.replicate n 0) := by
  show (madeCells #[Value.int .u8 0] (n * 1)).toList = _
  rw [toList_madeCells_one, Nat.mul_one]
  simp [bv]
theorem OwnF.own_ne {w : World} {base : Nat} {v : Value} {l : List Fd} (h : OwnF w base v l) : v.ownBlock ≠ some w.heap.size := by
  obtain ⟨_, ⟨rfl, _⟩ | ⟨g, cap, cur, rfl, _, h5, _⟩⟩ := h
  · intro e; cases e
  · intro e
    have h6 := Has.lt h5
    have : g = w.heap.size := Option.some.inj e
    omega
theorem run_pushFs2 {P : Program} (w : World) (base : Nat) (t ty : TypeId) (i : TypeInfo) (ht : P.underlying t = some (.slice 98)) (hi : P.info? 98 = some i) (hz : i.zero = some (.agg #[.int .i64 0, .int .i64 0, .string ⟨#[]⟩])) (hsize : i.size = 3) (hby : i.bytes = 32)
    (v : Value) (l : List Fd) (hown : OwnF w base v l) (B : Nat) (A : Option Addr) (m : List Fd) (n c : Nat) (hn : m.length = n) (hm : Fds w B A m) (hlen : l.length + n ≤ 1000000) (hbase : base ≤ w.heap.size) :
    ∃ v' w', (Builtin.append_ #[t, t] ty #[v, .slice A n c]).run P w = .ok v' w' ∧ OwnF w' base v' (l ++ m) ∧ Below base w w' ∧ (∀ i, i < w.heap.size → v.ownBlock ≠ some i → w'.heap[i]? = w.heap[i]?) := by
  subst hn
  by_cases hm0 : m = []
  · subst hm0
    exact ⟨v, w, run_pushF_nil w base t ty i ht hi v l hown A c, by rw [List.append_nil]; exact hown, Below.refl _ _, fun _ _ _ => rfl⟩
  · obtain ⟨b, o, e, _⟩ := hm hm0
    subst e
    obtain ⟨v', w', hrun, h2, hg, _, _⟩ := run_append_own_at (P := P) w base t ty 98 i (.agg #[.int .i64 0, .int .i64 0, .string ⟨#[]⟩]) 3 32 ht hi hz hsize hby rfl (by decide) v l.length (flatF l) hown ⟨b, o, none⟩ m.length c (flatF m) (flatF_len m) (hm.news rfl) (flatF_ones m) (by unfold maxLen; omega) (by omega) hbase
    refine ⟨v', w', hrun, ?_, ⟨hg.os, hg.tape, hg.output, hg.size, fun j hj => hg.block j (by omega) ?_⟩, fun j hj hne => hg.block j hj (fun e => hne e.symm)⟩
    · unfold OwnF
      rw [flatF_append, List.length_append]
      exact h2
    · intro e
      obtain ⟨_, ⟨rfl, _⟩ | ⟨g', cap', cur, rfl, h4, h5, _⟩⟩ := hown
      · cases e
      · have : j = g' := Option.some.inj e
        omega
theorem step_pushFs2 {P : Program} {ops : Array Oper} {o : Oper} {a : Act} {w : World} {K : Act → World → Prop} {Q : Exit → Act → World → Prop} {E : Prop} (hgd : o.guard = none) (s x : Operand) (t : TypeId)
    (ho : o.op = .call { callee := .builtin .append, args := #[s, x], argTypes := #[t, t] })
    (base : Nat) (i : TypeInfo) (ht : P.underlying t = some (.slice 98)) (hi : P.info? 98 = some i) (hz : i.zero = some (.agg #[.int .i64 0, .int .i64 0, .string ⟨#[]⟩])) (hsize : i.size = 3) (hby : i.bytes = 32)
    (v : Value) (l : List Fd) (hs : a.eval s = v) (hown : OwnF w base v l) (B : Nat) (A : Option Addr) (m : List Fd) (n c : Nat) (hn : m.length = n) (hx : a.eval x = .slice A n c) (hm : Fds w B A m) (hlen : l.length + n ≤ 1000000) (hbase : base ≤ w.heap.size)
    (h : ∀ v' w', OwnF w' base v' (l ++ m) → Below base w w' → (∀ i, i < w.heap.size → v.ownBlock ≠ some i → w'.heap[i]? = w.heap[i]?) → K (a.put o.dst v') w') :
    if Region.wanted o (yielded ops a.tmps) = true then Oper.wp P o a w K Q else E := by
  have hw : Region.wanted o (yielded ops a.tmps) = true := by simp [Region.wanted, hgd]
  rw [if_pos hw]
  obtain ⟨v', w', hr, h2, h3, h4⟩ := run_pushFs2 (P := P) w base t o.type i ht hi hz hsize hby v l hown B A m n c hn hm hlen hbase
  unfold Oper.wp execOp
  simp only [ho, resolve, invoke, builtin, Sem.run_bind, Sem.run_pure, Result.andThen_ok, List.map_toArray, List.map_cons, List.map_nil, hs, hx, hr]
  exact h v' w' h2 h3 h4
theorem decF0_pos {kind : Int} {l : List UInt8} {f : Fd} {n : Nat} (h : decF0 kind l = some (f, n)) : 1 ≤ n ∧ n ≤ l.length := by
  cases l with
  | nil => cases h
  | cons c r =>
    rw [decF0_at] at h
    split at h
    · injection h with h; injection h with _ h; subst h; simp
    · split at h
      · unfold decI at h
        split at h
        · injection h with h; injection h with _ h; subst h; omega
        · cases h
      · split at h
        · unfold decX0 at h
          cases hd : decT 1 [] ((c :: r).drop 1) with
          | none => rw [hd] at h; cases h
          | some p =>
            obtain ⟨t, k⟩ := p
            rw [hd] at h
            injection h with h
            injection h with _ h
            subst h
            obtain ⟨t1, r1, q1, q2, q3⟩ := decT_inv _ _ _ _ _ _ (Nat.le_refl _) hd
            have q2' : r = esc t1 ++ 0 :: 1 :: r1 := q2
            rw [q3, List.length_cons, q2']
            simp
            omega
        · cases h
theorem fdV_shape0 (r : Option (Fd × Nat)) : ∃ (f : Fd) (n : Nat), fdV r = .tuple #[.agg #[.int .i64 f.kind, .int .i64 f.num, .string f.text], .int .i64 (n : Int)] := by
  cases r with
  | none => exact ⟨Fd.zero, 0, rfl⟩
  | some p => exact ⟨p.1, p.2, rfl⟩

set_option maxRecDepth 100000 in
set_option maxHeartbeats 6400000 in
theorem rdecode_in (A1 : Option Addr) (s : List Col) (c1 : Nat) (key : ByteArray) (w : World) (hs : Cols w w.heap.size A1 s) (hs6 : s.length ≤ 6) (hok : s.all Col.ok = true) (h64 : key.size ≤ 64)
    (HV : Hid (Calls Tryd.prog 68 #[.slice A1 s.length c1] w (BoolB true w))) :
    Calls Tryd.prog 26 #[.slice A1 s.length c1, .string key] w (DecP (match decR s key.data.toList with | some l => (l, 0) | none => ([], 4)) w) := by
  obtain ⟨i0', hi0, hz0, hz1, hz2⟩ := info_parts infoByte
  obtain ⟨inf, hif, hif1, hif2, hif3⟩ := infoF_parts
  obtain ⟨DV, hDV⟩ : ∃ DV : List Fd × Int, DV = (match decR s key.data.toList with | some l => (l, 0) | none => ([], 4)) := ⟨_, rfl⟩
  rw [← hDV]
  have HDV := Lib.hid hDV
  have HOK := Lib.hid (List.all_eq_true.1 hok)
  clear hDV hok
  have hgt : ¬ ((64 : Int) < (key.size : Int)) := by omega
  have hgt2 : decide ((64 : Int) < (key.size : Int)) = false := by simp; omega
  go_enter Tryd.func26, Tryd.ntmps26
  go_wp2_with fail
  refine (HV.out).mono ?_
  rintro e w0 ⟨rfl, hb0⟩
  clear HV
  obtain ⟨cap, w1, hconv, hge, hb1, hlt1, hcell, hsome, hfz⟩ := conv_d w0 key
  have hsz : key.data.toList.length = key.size := by simp
  generalize hkl : key.data.toList = kl at *
  have HSZ := Lib.hid hsz
  have HKL := Lib.hid hkl
  clear hsz hkl hsome hfz
  go_wp2_with fail
  generalize hR : w0.heap.size = R at *
  have hR0 : w.heap.size ≤ R := by have := hb0.size; omega
  have hbW1 : Below w.heap.size w w1 := hb0.trans (hb1.mono hR0)
  have HR := Lib.hid hR
  clear hR hconv
  go_loopw [6, 7, 8] (fun out rest i wr => ∃ (A3 : Option Addr) (c3 k o o' c5 n5 : Nat) (fs : List Fd), out = .slice A3 fs.length c3 ∧ rest = .slice (some ⟨R, o', none⟩) n5 c5 ∧ i = .int .i64 (k : Int) ∧ k ≤ s.length ∧ n5 + o = key.size ∧ n5 ≤ c5 ∧ (0 < n5 → o' = o) ∧ OwnF wr w1.heap.size (.slice A3 fs.length c3) fs ∧ Below w1.heap.size w1 wr ∧ fs.length ≤ k ∧ Hid (decR s kl = (decR (s.drop k) (kl.drop o)).map (fs ++ ·))) (fun _ _ i _ => s.length - (intOf i).toNat)
  case atStart => exact ⟨none, 0, 0, 0, 0, cap, key.size, [], rfl, rfl, rfl, by omega, by omega, hge, fun _ => rfl, OwnF.nil _ _, Below.refl _ _, by simp, Lib.hid (by simp)⟩
  case round =>
    obtain ⟨A3, c3, k, o, o', c5, n5, fs, rfl, rfl, rfl, hk, hno, hn5, ho', hoF, hB, hfk, HD⟩ := hrel
    have hw1r := hB.size
    have hBw : Below w.heap.size w wr := hbW1.trans (hB.mono hbW1.size)
    by_cases hlt : k < s.length
    · obtain ⟨b0, o0, hA0, hz9, d1, d2⟩ := hs.at_ hlt
      subst hA0
      have hyo := HOK.out _ (List.getElem_mem hlt)
      have hdd := HD.out
      rw [List.drop_eq_getElem_cons hlt, decR_cons] at hdd
      generalize s[k] = y at *
      obtain ⟨yk, yd⟩ := y
      obtain ⟨e8, he8⟩ : ∃ e8, e8 = kl.drop o := ⟨_, rfl⟩
      rw [← he8] at hdd
      have hel : e8.length = n5 := by have := HSZ.out; rw [he8, List.length_drop]; omega
      have hce : ∀ j (hj : j < e8.length), w1.cell? ⟨R, o' + j, none⟩ = some (.int .u8 (e8[j].toNat : Int)) := fun j hj => by
        have e1 := ho' (by omega)
        subst e1
        have hj2 : o' + j < kl.length := by have := HSZ.out; omega
        rw [hcell (o' + j) hj2]
        simp [he8]
      have HDD := Lib.hid hdd
      have HEL := Lib.hid hel
      have HCE := Lib.hid hce
      have HE8 := Lib.hid he8
      clear hdd hel hce he8 hcell
      have g0 : (0 : Int) ≤ (k : Int) := by omega
      have g1 : (k : Int) < (s.length : Int) := by omega
      go_wp2_with (at_make; refine wpList_make_full _ rfl _ _ 58 rfl wr.heap.size 5 i0' _ 1 Tryd.underlying58 hi0 hz0 hz1 _ _ _ _ n5 rfl rfl rfl rfl (by rw [hz2]; omega) (by unfold maxLen; omega) (Nat.le_refl _) ?_; intro w2 ho2 hg2)
      have hob : OwnB w2 wr.heap.size (.slice (some ⟨wr.heap.size, 0, none⟩) n5 n5) (mixD e8 yd 0) := by
        rw [mixD_zero, HEL.out]
        unfold OwnB
        rw [List.length_replicate, ← made_bytes]
        exact ho2
      have hB2 : Below wr.heap.size wr w2 := ⟨hg2.os, hg2.tape, hg2.output, hg2.size, fun j hj => hg2.block j hj (by simp)⟩
      obtain ⟨D, hD⟩ : ∃ D, D = wr.heap.size := ⟨_, rfl⟩
      rw [← hD] at hob hB2 ⊢
      have hDr : w1.heap.size ≤ D := by omega
      have HDq := Lib.hid hD
      clear hg2 ho2 hD
      go_loopw [10] (fun j wx => ∃ m : Nat, j = .int .i64 (m : Int) ∧ m ≤ n5 ∧ OwnB wx D (.slice (some ⟨D, 0, none⟩) n5 n5) (mixD e8 yd m) ∧ Below D wr wx) (fun j _ => n5 - (intOf j).toNat)
      case atStart => exact ⟨0, rfl, by omega, hob, hB2⟩
      case round =>
        clear hob hB2
        obtain ⟨m, rfl, hm, hox, hbx⟩ := hrel
        have hzx := hbx.size
        have hBx : Below w.heap.size w wr := hBw.trans (hbx.mono (by have := HDq.out; have := hBw.size; omega))
        have hB1x : Below w1.heap.size w1 wr := hB.trans (hbx.mono hDr)
        obtain ⟨-, -, hGx, -, hcx, hfx, hby⟩ := OwnB.cells hox
        have hd1 := (hBx.cell (p := ⟨b0, o0 + k * 2, none⟩) hz9).trans d1
        have hd2 := (hBx.cell (p := ⟨b0, o0 + k * 2 + 1, none⟩) hz9).trans d2
        by_cases hml : m < n5
        · have hm8 : m < e8.length := by rw [HEL.out]; exact hml
          have hr1 := (hB1x.cell (p := ⟨R, o' + m, none⟩) hlt1).trans (HCE.out m hm8)
          have hc1 := hcx m (by rw [mixD_len (by omega)]; exact hm8)
          have hf1 := hfx m
          have hp1 := hox.put m e8[m]
          have hp2 := hp1.put m (neg e8[m])
          have hms := mixD_set (d := yd) hm8
          have hlt8 := e8[m].toNat_lt
          have hnn : (((neg e8[m]).toNat : Nat) : Int) = 255 - (e8[m].toNat : Int) := by
            have := neg_nat e8[m]
            omega
          rw [List.set_set] at hp2
          have hr2 : (wr.setCell ⟨D, m, none⟩ (.int .u8 (e8[m].toNat : Int))).cell? ⟨R, o' + m, none⟩ = some (.int .u8 (e8[m].toNat : Int)) := (World.cell?_setCell_other wr _ _ _ (fun e => by injection e with e1 e2; omega)).trans hr1
          have hd3 : (wr.setCell ⟨D, m, none⟩ (.int .u8 (e8[m].toNat : Int))).cell? ⟨b0, o0 + k * 2 + 1, none⟩ = some (.bool yd) := (World.cell?_setCell_other wr _ _ _ (fun e => by injection e with e1 e2; omega)).trans hd2
          have hf2 : (wr.setCell ⟨D, m, none⟩ (.int .u8 (e8[m].toNat : Int))).frozen? ⟨D, m, none⟩ = false := (OwnB.cells hp1).2.2.2.2.2.1 m
          have hc2 : (wr.setCell ⟨D, m, none⟩ (.int .u8 (e8[m].toNat : Int))).cell? ⟨D, m, none⟩ = some (.int .u8 (e8[m].toNat : Int)) := World.cell?_setCell_same wr _ _ hc1
          have hs1 := hbx.setCell (p := ⟨D, m, none⟩) (Nat.le_refl _) (.int .u8 (e8[m].toNat : Int))
          have hs2 := hs1.setCell (p := ⟨D, m, none⟩) (Nat.le_refl _) (.int .u8 (255 - (e8[m].toNat : Int)))
          have i0 : (0 : Int) ≤ (m : Int) := by omega
          have i1 : (m : Int) < (n5 : Int) := by omega
          generalize (mixD e8 yd m)[m]'(by rw [mixD_len (by omega)]; exact hm8) = old at *
          cases yd
          · have hst : OwnB (wr.setCell ⟨D, m, none⟩ (.int .u8 (e8[m].toNat : Int))) D (.slice (some ⟨D, 0, none⟩) n5 n5) (mixD e8 false (m + 1)) := by rw [← hms]; exact hp1
            have HST := Lib.hid hst
            clear hst hp1 hp2 hms hnn hcx hfx hby hox hr2 hf2 hc2 hs2
            generalize (e8[m]).toNat = z at *
            go_wp2_with fail
            exact ⟨⟨m + 1, by go_num, hml, HST.out, hs1⟩, by simp [intOf]; omega⟩
          · rw [hnn] at hp2
            have hst : OwnB ((wr.setCell ⟨D, m, none⟩ (.int .u8 (e8[m].toNat : Int))).setCell ⟨D, m, none⟩ (.int .u8 (255 - (e8[m].toNat : Int)))) D (.slice (some ⟨D, 0, none⟩) n5 n5) (mixD e8 true (m + 1)) := by rw [← hms]; exact hp2
            have HST := Lib.hid hst
            clear hst hp1 hp2 hms hnn hcx hfx hby hox
            generalize (e8[m]).toNat = z at *
            go_wp2_with fail
            exact ⟨⟨m + 1, by go_num, hml, HST.out, hs2⟩, by simp [intOf]; omega⟩
        · have hml2 : ¬ (m : Int) < (n5 : Int) := by omega
          rw [mixD_all (by rw [HEL.out]; omega)] at hby
          have hle : (if yd then e8.map neg else e8).length = n5 := by rw [← HEL.out]; split <;> simp
          have hoF2 := hoF.below (HDq.out ▸ hbx)
          have F := rfield_any ⟨yk, yd⟩ (some ⟨D, 0, none⟩) (if yd then e8.map neg else e8) n5 wr hby (by rw [hle]; omega) hyo
          rw [hle] at F
          have hdl := decFd_lim yk (if yd then e8.map neg else e8)
          have hdd := HDD.out
          simp only at hdd F
          rw [hdl] at hdd
          clear hdl hcx hfx hox hby hml
          cases hd0 : decF0 yk (if yd then e8.map neg else e8) with
          | none =>
            rw [hd0] at hdd F
            simp only [Option.map_none] at hdd
            have HN : Hid (DV = ([], 4)) := Lib.hid (by rw [HDV.out, hdd])
            have HF := Lib.hid F
            clear hdd F hd0 hle
            go_wp2_with fail
            refine (HF.out).mono ?_
            rintro e w4 ⟨he, hb4⟩
            obtain rfl : e = .returned (.tuple #[.agg #[.int .i64 0, .int .i64 0, .string ⟨#[]⟩], .int .i64 0]) := he
            have hB4 := hBx.trans (hb4.mono hBx.size)
            clear HF
            go_wp2_with fail
            go_ret2
            rw [HN.out]
            exact decP_err (hB4.alloc hB4.size _)
          | some p =>
            obtain ⟨⟨fk, fn, ft⟩, n⟩ := p
            obtain ⟨hn1, hn2⟩ := decF0_pos hd0
            rw [hle] at hn2
            rw [hd0] at hdd F
            have HF := Lib.hid F
            have t1 : ((n : Int) == 0) = false := by rw [beq_eq_false_iff_ne]; omega
            clear F hd0 hle
            by_cases h16 : ft.size ≤ 16
            · simp only at hdd
              rw [if_pos h16] at hdd
              simp only at hdd
              have hdrop : kl.drop (o + n) = e8.drop n := by rw [HE8.out, List.drop_drop]
              have HDN : Hid (decR s kl = (decR (s.drop (k + 1)) (kl.drop (o + n))).map ((fs ++ [⟨fk, fn, ft⟩]) ++ ·)) := Lib.hid (by
                rw [hdd, hdrop]
                cases decR (s.drop (k + 1)) (e8.drop n) <;> simp)
              have t2 : ¬ ((16 : Int) < (ft.size : Int)) := by omega
              have t3 : decide ((16 : Int) < (ft.size : Int)) = false := by simp; omega
              have j1 : (n : Int) ≤ (n5 : Int) := by omega
              have j2 : (0 : Int) ≤ (n : Int) := by omega
              have j3 : (n5 : Int) ≤ (c5 : Int) := by omega
              have j4 : (n : Int) ≤ (c5 : Int) := by omega
              clear hdd hdrop
              go_wp2_with fail
              refine (HF.out).mono ?_
              rintro e w4 ⟨he, hb4⟩
              obtain rfl : e = .returned (.tuple #[.agg #[.int .i64 fk, .int .i64 fn, .string ft], .int .i64 (n : Int)]) := he
              have hB4 := hB1x.trans (hb4.mono hB1x.size)
              have hoF4 := (hoF2.below hb4).below ((Below.refl w4.heap.size w4).alloc (Nat.le_refl _) (.cells #[.int .i64 fk, .int .i64 fn, .string ft] 98))
              have hB5 := hB4.alloc hB4.size (.cells #[.int .i64 fk, .int .i64 fn, .string ft] 98)
              have hX := Has.new w4 98 #[.int .i64 fk, .int .i64 fn, .string ft]
              have r0 : (w4.alloc (.cells #[.int .i64 fk, .int .i64 fn, .string ft] 98)).cell? ⟨w4.heap.size, 0, none⟩ = some (.int .i64 fk) := hX.cell 0
              have r1 : (w4.alloc (.cells #[.int .i64 fk, .int .i64 fn, .string ft] 98)).cell? ⟨w4.heap.size, 1, none⟩ = some (.int .i64 fn) := hX.cell 1
              have r2 : (w4.alloc (.cells #[.int .i64 fk, .int .i64 fn, .string ft] 98)).cell? ⟨w4.heap.size, 2, none⟩ = some (.string ft) := hX.cell 2
              have hXne := (hoF2.below hb4).own_ne
              clear HF hb4 hX hoF2 hB1x hBx hoF hB hBw
              by_cases hcn : c5 = n
              · have hnn : n5 = n := by omega
                subst hcn hnn
                go_wp2_with fail
                have hXlt0 : w4.heap.size < (w4.alloc (.cells #[.int .i64 fk, .int .i64 fn, .string ft] 98)).heap.size := by rw [World.size_alloc]; omega
                generalize w4.alloc (.cells #[.int .i64 fk, .int .i64 fn, .string ft] 98) = W0 at *
                generalize w4.heap.size = X at *
                have hz5 := hB5.size
                have hbe : Below W0.heap.size W0 (World.drew (World.alloc W0 (.cells #[.int .i64 fk, .int .i64 fn, .string ft] 98))) := ((Below.refl W0.heap.size W0).alloc (Nat.le_refl _) _).drew
                have hoF5 := hoF4.below hbe
                have s0 := (hbe.cell (p := ⟨X, 0, none⟩) hXlt0).trans r0
                have s1 := (hbe.cell (p := ⟨X, 1, none⟩) hXlt0).trans r1
                have s2 := (hbe.cell (p := ⟨X, 2, none⟩) hXlt0).trans r2
                have hXlt := Nat.lt_of_lt_of_le hXlt0 hbe.size
                have hm : Fds (World.drew (World.alloc W0 (.cells #[.int .i64 fk, .int .i64 fn, .string ft] 98))) (W0.heap.size + 1) (some ⟨W0.heap.size, 0, none⟩) [⟨fk, fn, ft⟩] := fds_new W0 ⟨fk, fn, ft⟩
                have q1 : fs.length + 1 ≤ 1000000 := by omega
                have q2 : w1.heap.size ≤ (World.drew (World.alloc W0 (.cells #[.int .i64 fk, .int .i64 fn, .string ft] 98))).heap.size := Nat.le_trans hz5 hbe.size
                have hb7 := hbe.mono hz5
                have hb8 := (Below.refl w1.heap.size W0).drew
                go_region_held3 (fun w' => Below w1.heap.size W0 w' ∧ w'.cell? ⟨X, 0, none⟩ = some (.int .i64 fk) ∧ w'.cell? ⟨X, 1, none⟩ = some (.int .i64 fn) ∧ w'.cell? ⟨X, 2, none⟩ = some (.string ft)) (first | with_reducible exact ⟨hb9, k0, k1, k2⟩ | with_reducible exact ⟨hb7, s0, s1, s2⟩ | exact ⟨hb8, r0, r1, r2⟩ | with_reducible assumption) (first | (refine step_pushFs2 (w := World.drew (World.alloc W0 (.cells #[.int .i64 fk, .int .i64 fn, .string ft] 98))) (o := ⟨some 76, _, _, _, _, _⟩) rfl (.tmp 73) (.tmp 75) 24 (by rfl) w1.heap.size inf Tryd.underlying24 hif hif1 hif2 hif3 (.slice A3 fs.length c3) fs (by simp [Act.eval]) hoF5 (W0.heap.size + 1) (some ⟨W0.heap.size, 0, none⟩) [⟨fk, fn, ft⟩] 1 1 rfl (by simp [Act.eval]) hm q1 q2 ?_; intro v2 w6 ho6 hb6 hblk; have hb9 := hb7.trans hb6; have k0 := (World.cell?_of_block (a := ⟨X, 0, none⟩) (hblk X hXlt hXne)).trans s0; have k1 := (World.cell?_of_block (a := ⟨X, 1, none⟩) (hblk X hXlt hXne)).trans s1; have k2 := (World.cell?_of_block (a := ⟨X, 2, none⟩) (hblk X hXlt hXne)).trans s2))
                all_goals
                  obtain ⟨A6, c6, rfl, -⟩ := ho6.read
                  obtain ⟨fs2, hfs2⟩ : ∃ fs2, fs2 = fs ++ [(⟨fk, fn, ft⟩ : Fd)] := ⟨_, rfl⟩
                  rw [← hfs2] at ho6 ⊢
                  have hl2 : fs2.length ≤ k + 1 := by rw [hfs2]; simp; omega
                  have HDN2 : Hid (decR s kl = (decR (s.drop (k + 1)) (kl.drop (o + n5))).map (fs2 ++ ·)) := Lib.hid (by rw [hfs2]; exact HDN.out)
                  clear hfs2
                  go_wp2_with fail
                  exact ⟨⟨A6, c6, k + 1, o + n5, o', 0, 0, fs2, rfl, rfl, by go_num, hlt, by omega, by omega, by omega, ho6, hB5.trans hb9, hl2, HDN2⟩, by simp [intOf]; omega⟩
              · go_wp2_with fail
                have hXlt0 : w4.heap.size < (w4.alloc (.cells #[.int .i64 fk, .int .i64 fn, .string ft] 98)).heap.size := by rw [World.size_alloc]; omega
                generalize w4.alloc (.cells #[.int .i64 fk, .int .i64 fn, .string ft] 98) = W0 at *
                generalize w4.heap.size = X at *
                have hz5 := hB5.size
                have hbe : Below W0.heap.size W0 (World.drew (World.alloc W0 (.cells #[.int .i64 fk, .int .i64 fn, .string ft] 98))) := ((Below.refl W0.heap.size W0).alloc (Nat.le_refl _) _).drew
                have hoF5 := hoF4.below hbe
                have s0 := (hbe.cell (p := ⟨X, 0, none⟩) hXlt0).trans r0
                have s1 := (hbe.cell (p := ⟨X, 1, none⟩) hXlt0).trans r1
                have s2 := (hbe.cell (p := ⟨X, 2, none⟩) hXlt0).trans r2
                have hXlt := Nat.lt_of_lt_of_le hXlt0 hbe.size
                have hm : Fds (World.drew (World.alloc W0 (.cells #[.int .i64 fk, .int .i64 fn, .string ft] 98))) (W0.heap.size + 1) (some ⟨W0.heap.size, 0, none⟩) [⟨fk, fn, ft⟩] := fds_new W0 ⟨fk, fn, ft⟩
                have q1 : fs.length + 1 ≤ 1000000 := by omega
                have q2 : w1.heap.size ≤ (World.drew (World.alloc W0 (.cells #[.int .i64 fk, .int .i64 fn, .string ft] 98))).heap.size := Nat.le_trans hz5 hbe.size
                have hb7 := hbe.mono hz5
                have hb8 := (Below.refl w1.heap.size W0).drew
                go_region_held3 (fun w' => Below w1.heap.size W0 w' ∧ w'.cell? ⟨X, 0, none⟩ = some (.int .i64 fk) ∧ w'.cell? ⟨X, 1, none⟩ = some (.int .i64 fn) ∧ w'.cell? ⟨X, 2, none⟩ = some (.string ft)) (first | with_reducible exact ⟨hb9, k0, k1, k2⟩ | with_reducible exact ⟨hb7, s0, s1, s2⟩ | exact ⟨hb8, r0, r1, r2⟩ | with_reducible assumption) (first | (refine step_pushFs2 (w := World.drew (World.alloc W0 (.cells #[.int .i64 fk, .int .i64 fn, .string ft] 98))) (o := ⟨some 76, _, _, _, _, _⟩) rfl (.tmp 73) (.tmp 75) 24 (by rfl) w1.heap.size inf Tryd.underlying24 hif hif1 hif2 hif3 (.slice A3 fs.length c3) fs (by simp [Act.eval]) hoF5 (W0.heap.size + 1) (some ⟨W0.heap.size, 0, none⟩) [⟨fk, fn, ft⟩] 1 1 rfl (by simp [Act.eval]) hm q1 q2 ?_; intro v2 w6 ho6 hb6 hblk; have hb9 := hb7.trans hb6; have k0 := (World.cell?_of_block (a := ⟨X, 0, none⟩) (hblk X hXlt hXne)).trans s0; have k1 := (World.cell?_of_block (a := ⟨X, 1, none⟩) (hblk X hXlt hXne)).trans s1; have k2 := (World.cell?_of_block (a := ⟨X, 2, none⟩) (hblk X hXlt hXne)).trans s2))
                all_goals
                  obtain ⟨A6, c6, rfl, -⟩ := ho6.read
                  obtain ⟨fs2, hfs2⟩ : ∃ fs2, fs2 = fs ++ [(⟨fk, fn, ft⟩ : Fd)] := ⟨_, rfl⟩
                  rw [← hfs2] at ho6 ⊢
                  have hl2 : fs2.length ≤ k + 1 := by rw [hfs2]; simp; omega
                  have HDN2 : Hid (decR s kl = (decR (s.drop (k + 1)) (kl.drop (o + n))).map (fs2 ++ ·)) := Lib.hid (by rw [hfs2]; exact HDN.out)
                  clear hfs2
                  go_wp2_with fail
                  exact ⟨⟨A6, c6, k + 1, o + n, (o' + n), (c5 - n), (n5 - n), fs2, rfl, rfl, by go_num, hlt, by omega, by omega, by omega, ho6, hB5.trans hb9, hl2, HDN2⟩, by simp [intOf]; omega⟩
            · simp only at hdd
              rw [if_neg h16] at hdd
              simp only [Option.map_none] at hdd
              have HN : Hid (DV = ([], 4)) := Lib.hid (by rw [HDV.out, hdd])
              have t2 : (16 : Int) < (ft.size : Int) := by omega
              have t3 : decide ((16 : Int) < (ft.size : Int)) = true := by simp; omega
              clear hdd
              go_wp2_with fail
              refine (HF.out).mono ?_
              rintro e w4 ⟨he, hb4⟩
              obtain rfl : e = .returned (.tuple #[.agg #[.int .i64 fk, .int .i64 fn, .string ft], .int .i64 (n : Int)]) := he
              have hB4 := hBx.trans (hb4.mono hBx.size)
              have hX := Has.new w4 98 #[.int .i64 fk, .int .i64 fn, .string ft]
              have r2 : (w4.alloc (.cells #[.int .i64 fk, .int .i64 fn, .string ft] 98)).cell? ⟨w4.heap.size, 2, none⟩ = some (.string ft) := hX.cell 2
              clear HF hX
              go_wp2_with fail
              go_ret2
              rw [HN.out]
              exact decP_err (hB4.alloc hB4.size _)
    · have hD2 : decR s kl = (decR [] (kl.drop o)).map (fs ++ ·) := by rw [HD.out, List.drop_eq_nil_of_le (by omega)]
      by_cases hz : n5 = 0
      · have hdn : kl.drop o = [] := List.drop_eq_nil_of_le (by have := HSZ.out; omega)
        have HN : Hid (DV = (fs, 0)) := Lib.hid (by rw [HDV.out, hD2, hdn]; simp [decR])
        have j1 : ¬ ((0 : Int) < (n5 : Int)) := by omega
        have j2 : decide ((0 : Int) < (n5 : Int)) = false := by simp; omega
        have hr9 := hoF.fds2
        clear hD2 hdn hz
        go_wp2_with fail
        go_ret2
        rw [HN.out]
        exact ⟨_, _, rfl, hr9, hBw⟩
      · have hdn : ∃ x r, kl.drop o = x :: r := by
          cases h : kl.drop o with
          | nil =>
            have h2 := congrArg List.length h
            rw [List.length_drop, HSZ.out] at h2
            simp at h2
            omega
          | cons x r => exact ⟨x, r, rfl⟩
        obtain ⟨x, r, hdn⟩ := hdn
        have HN : Hid (DV = ([], 4)) := Lib.hid (by rw [HDV.out, hD2, hdn]; simp [decR])
        have j1 : (0 : Int) < (n5 : Int) := by omega
        have j2 : decide ((0 : Int) < (n5 : Int)) = true := by simp; omega
        clear hD2 hdn hz
        go_wp2_with fail
        go_ret2
        rw [HN.out]
        exact decP_err hBw

set_option maxRecDepth 100000 in
set_option maxHeartbeats 1600000 in
theorem rdecode_any (A1 : Option Addr) (s : List Col) (c1 : Nat) (key : ByteArray) (w : World) (hs : Cols w w.heap.size A1 s) :
    Calls Tryd.prog 26 #[.slice A1 s.length c1, .string key] w (DecP (decV s key) w) := by
  have RV := rvalid_any A1 s c1 w hs
  unfold decV
  cases hv : schOk s
  · rw [hv] at RV
    have H := Lib.hid RV
    clear hv RV hs
    rw [if_neg (by simp)]
    go_enter Tryd.func26, Tryd.ntmps26
    go_wp2_with fail
    refine (H.out).mono ?_
    rintro e w1 ⟨rfl, hb1⟩
    go_wp2_with fail
    go_ret2
    exact decP_err hb1
  · rw [hv] at RV
    have H := Lib.hid RV
    rw [if_pos rfl]
    by_cases h64 : key.size ≤ 64
    · rw [if_pos h64]
      have hv2 := hv
      simp only [schOk, Bool.and_eq_true] at hv2
      exact rdecode_in A1 s c1 key w hs (schOk_len hv).2 hv2.2 h64 H
    · rw [if_neg h64]
      have hgt : (64 : Int) < (key.size : Int) := by omega
      clear hv RV hs h64
      go_enter Tryd.func26, Tryd.ntmps26
      go_wp2_with fail
      refine (H.out).mono ?_
      rintro e w1 ⟨rfl, hb1⟩
      go_wp2_with fail
      go_ret2
      exact decP_err hb1
end Go.Proofs.YtlnmpiigmedgkaaDoor
