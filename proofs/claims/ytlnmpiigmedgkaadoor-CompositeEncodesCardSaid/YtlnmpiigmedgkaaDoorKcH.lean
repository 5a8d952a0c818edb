/-
  Decode of package composite. Conditions: the arguments can be read.
-/
import Derived.Test.YtlnmpiigmedgkaaDoorKcG
namespace Go.Proofs.YtlnmpiigmedgkaaDoor
open Go.RowKit

theorem conv_c (w : World) (s : ByteArray) : ∃ (cap : Nat) (w1 : World), (convert 9 58 (.string s)).run Tryd.prog w = .ok (.slice (some ⟨w.heap.size, 0, none⟩) s.size cap) w1 ∧ s.size ≤ cap ∧ Below w.heap.size w w1 ∧ w.heap.size < w1.heap.size ∧
    (∀ j (hj : j < s.data.toList.length), w1.cell? ⟨w.heap.size, j, none⟩ = some (.int .u8 (s.data.toList[j].toNat : Int))) ∧ (∀ j, j < s.size → w1.frozen? ⟨w.heap.size, j, none⟩ = false) := by
  have h := run_bytes_of_string (P := Tryd.prog) w 9 58 5 s Tryd.underlying9 Tryd.underlying58 Tryd.underlying5
  have hsz : (bytesRow s (grownCap w s.size 0 5)).size = s.size + (grownCap w s.size 0 5 - s.size) := by
    unfold bytesRow
    rw [Array.size_append, Array.size_map, Array.size_replicate]
    rfl
  refine ⟨_, _, h, ?_, ((Below.refl _ _).drew).alloc (Nat.le_refl _) _, ?_, fun j hj => ?_, fun j hj => ?_⟩
  · exact grownCap_ge _ _ _ _
  · rw [World.size_alloc]; exact Nat.lt_succ_self _
  · have h1 : j < (s.data.map (fun b => Value.int .u8 b.toNat)).size := by rw [Array.size_map]; exact hj
    refine (World.cell?_alloc_mark w.drew _ _ _ j).trans ?_
    unfold bytesRow
    rw [Array.getElem?_append_left h1, Array.getElem?_map, ← Array.getElem?_toList, List.getElem?_eq_getElem hj]
    rfl
  · refine (World.frozen?_alloc_mark w.drew _ _ _ _ j).trans ?_
    rw [hsz, decide_eq_false (by omega)]
    rfl

theorem infoField : (Tryd.prog.info? 98).map (fun i => (i.zero, i.size, i.bytes)) = some (some (.agg #[.int .i64 0, .int .i64 0, .string ⟨#[]⟩]), 3, 32) := by kernel_rfl
theorem infoF_parts : ∃ i, Tryd.prog.info? 98 = some i ∧ i.zero = some (.agg #[.int .i64 0, .int .i64 0, .string ⟨#[]⟩]) ∧ i.size = 3 ∧ i.bytes = 32 := by
  obtain ⟨i, h, e⟩ := Option.map_eq_some_iff.1 infoField
  injection e with e1 e2
  injection e2 with e2 e3
  exact ⟨i, h, e1, e2, e3⟩

/-- A row of fields of the call's own. -/
def flatF (l : List Fd) : List Value := l.flatMap fun f => [.int .i64 f.kind, .int .i64 f.num, .string f.text]
theorem flatF_len (l : List Fd) : (flatF l).length = l.length * 3 := by
  induction l with
  | nil => rfl
  | cons x l ih => show (_ ++ flatF l).length = _; rw [List.length_append, ih]; simp; omega
theorem flatF_snoc (l : List Fd) (f : Fd) : flatF (l ++ [f]) = flatF l ++ [.int .i64 f.kind, .int .i64 f.num, .string f.text] := by simp [flatF]
theorem flatF_at : ∀ (l : List Fd) (i : Nat) (h : i < l.length), (flatF l)[i * 3]? = some (.int .i64 l[i].kind) ∧ (flatF l)[i * 3 + 1]? = some (.int .i64 l[i].num) ∧ (flatF l)[i * 3 + 2]? = some (.string l[i].text)
  | [], _, h => by simp at h
  | _ :: _, 0, _ => ⟨rfl, rfl, rfl⟩
  | f :: l, i + 1, h => by
    have := flatF_at l i (by simpa using h)
    rw [show (i + 1) * 3 = i * 3 + 3 by omega]
    exact this
def OwnF (w : World) (base : Nat) (v : Value) (l : List Fd) : Prop := w.ownsRow base 98 3 v l.length (flatF l)
theorem OwnF.nil (w : World) (base : Nat) : OwnF w base (.slice none 0 0) [] := World.ownsRow_nil _ _ _ _
theorem OwnF.below {w w' : World} {base : Nat} {v : Value} {l : List Fd} (h : OwnF w base v l) (k : Below w.heap.size w w') : OwnF w' base v l := by
  obtain ⟨h1, h2 | ⟨g, cap, cur, h3, h4, h5, h6⟩⟩ := h
  · exact ⟨h1, .inl h2⟩
  · exact ⟨h1, .inr ⟨g, cap, cur, h3, h4, (k.block g (Has.lt h5)).trans h5, h6⟩⟩
theorem OwnF.read {w : World} {base : Nat} {v : Value} {l : List Fd} (h : OwnF w base v l) : ∃ A c, v = .slice A l.length c ∧ Fds w w.heap.size A l := by
  obtain ⟨h1, ⟨rfl, h2⟩ | ⟨g, cap, cur, rfl, h4, h5, h6, h7, h8, h9⟩⟩ := h
  · have hl : l = [] := List.eq_nil_of_length_eq_zero h2
    subst hl
    exact ⟨none, 0, rfl, Fds.nil _⟩
  · refine ⟨_, cap, rfl, fun _ => ⟨g, 0, rfl, Has.lt h5, fun i hi => ?_⟩⟩
    have hh := flatF_at l i hi
    rw [← h9] at hh
    have ht : ∀ j u, (cur.toList.take (l.length * 3))[j]? = some u → w.cell? ⟨g, 0 + j, none⟩ = some u := fun j u hj => by
      rw [Nat.zero_add, Has.cell h5, ← Array.getElem?_toList]
      rw [List.getElem?_take] at hj
      split at hj
      · exact hj
      · cases hj
    exact ⟨ht _ _ hh.1, ht _ _ hh.2.1, ht _ _ hh.2.2⟩
section
variable {P : Program}
/-- append of one field, which lies in the block that was just made. -/
theorem wpList_pushF {ops : Array Oper} {rest : List Oper} {o : Oper} {a : Act} {Q : Exit → Act → World → Prop} (hgd : o.guard = none) (s x : Operand) (t : TypeId)
    (ho : o.op = .call { callee := .builtin .append, args := #[s, x], argTypes := #[t, t] })
    (base : Nat) (i : TypeInfo) (ht : P.underlying t = some (.slice 98)) (hi : P.info? 98 = some i) (hz : i.zero = some (.agg #[.int .i64 0, .int .i64 0, .string ⟨#[]⟩])) (hsize : i.size = 3) (hby : i.bytes = 32)
    (v : Value) (l : List Fd) (w0 : World) (f : Fd) (hs : a.eval s = v) (hown : OwnF w0 base v l) (hx : a.eval x = .slice (some ⟨w0.heap.size, 0, none⟩) 1 1) (hlen : l.length < 1000000) (hbase : base ≤ w0.heap.size)
    (h : ∀ v' w', OwnF w' base v' (l ++ [f]) → Below base w0 w' → wpList P ops Q rest (a.put o.dst v') w') : wpList P ops Q (o :: rest) a (w0.alloc (.cells #[.int .i64 f.kind, .int .i64 f.num, .string f.text] 98)) := by
  refine wpList_append_own_at _ hgd s x t ho base 98 i (.agg #[.int .i64 0, .int .i64 0, .string ⟨#[]⟩]) 3 32 ht hi hz hsize hby rfl (by decide) v l.length (flatF l) hs (OwnF.below hown ((Below.refl _ _).alloc (Nat.le_refl _) _)) ⟨w0.heap.size, 0, none⟩ 1 1 [.int .i64 f.kind, .int .i64 f.num, .string f.text] hx rfl ?_ ?_ (by unfold maxLen; omega) (by omega) (by simp; omega) ?_
  · intro j u hj
    rw [add_at, Nat.zero_add, (Has.new w0 98 #[.int .i64 f.kind, .int .i64 f.num, .string f.text]).cell, ← Array.getElem?_toList]
    exact hj
  · intro u hu
    simp at hu
    rcases hu with rfl | rfl | rfl <;> rfl
  · intro v' w' ho' hg _ hat
    refine h v' w' ?_ ?_
    · unfold OwnF
      rw [flatF_snoc, List.length_append]
      exact ho'
    · refine ((Below.refl _ _).alloc hbase _).trans ⟨hg.os, hg.tape, hg.output, hg.size, fun j hj => hg.block j (by rw [World.size_alloc]; omega) ?_⟩
      intro e
      obtain ⟨_, ⟨rfl, _⟩ | ⟨g', cap', cur, rfl, h4, h5, _⟩⟩ := hown
      · cases e
      · have : j = g' := Option.some.inj e
        omega
end

theorem turnW_cell (G : Nat) : ∀ (l : List UInt8) (w : World) (off j : Nat) (hj : j < l.length), (∀ j, j < l.length → ∃ v, w.cell? ⟨G, off + j, none⟩ = some v) → (turnW w G off l).cell? ⟨G, off + j, none⟩ = some (.int .u8 ((neg l[j]).toNat : Int))
  | [], _, _, _, hj, _ => by simp at hj
  | c :: l, w, off, 0, _, h => by
    show (turnW _ G (off + 1) l).cell? _ = _
    rw [turnW_out G l _ _ (fun i _ e => by injection e with _ e; omega)]
    obtain ⟨v, hv⟩ := h 0 (by simp)
    exact World.cell?_setCell_same _ _ _ hv
  | c :: l, w, off, j + 1, hj, h => by
    show (turnW _ G (off + 1) l).cell? _ = _
    have := turnW_cell G l (w.setCell ⟨G, off, none⟩ (.int .u8 ((neg c).toNat : Int))) (off + 1) j (by simpa using hj) (fun i hi => by
      obtain ⟨v, hv⟩ := h (i + 1) (by simp; omega)
      refine ⟨v, ?_⟩
      rw [World.cell?_setCell_other _ _ _ _ (fun e => by injection e with _ e; omega), show off + 1 + i = off + (i + 1) by omega]
      exact hv)
    rw [show off + 1 + j = off + (j + 1) by omega] at this
    exact this
theorem decFd_pos {kind : Int} {l : List UInt8} {f : Fd} {n : Nat} (h : decFd kind l = some (f, n)) : 1 ≤ n ∧ n ≤ l.length := by
  have hT : ∀ (m : Nat) (l : List UInt8) (i : Nat) (t t' : List UInt8) (n : Nat), l.length ≤ m → decT i t l = some (t', n) → i + 2 ≤ n ∧ n ≤ i + l.length := by
    intro m
    induction m with
    | zero => intro l i t t' n hm h; have := List.eq_nil_of_length_eq_zero (Nat.le_zero.1 hm); subst this; simp [decT] at h
    | succ m ih =>
      intro l i t t' n hm h
      match l, hm, h with
      | [], _, h => simp [decT] at h
      | [_], _, h => simp [decT] at h
      | c :: d :: r, hm, h =>
        simp only [List.length_cons] at hm
        unfold decT at h
        split at h
        · have := ih (d :: r) _ _ _ _ (by simp; omega) h
          simp at this ⊢; omega
        · split at h
          · have := ih r _ _ _ _ (by omega) h
            simp; omega
          · split at h
            · cases h; simp <;> omega
            · cases h
  rcases l with _ | ⟨c, r⟩
  · cases h
  · rw [decFd_cons] at h
    split at h
    · cases h; simp
    · split at h
      · unfold decI at h
        split at h
        · cases h; omega
        · cases h
      · split at h
        · unfold decX at h
          split at h
          · rename_i t n' e
            split at h
            · cases h
              have := hT _ _ _ _ _ _ (Nat.le_refl _) e
              simp at this ⊢
              omega
            · cases h
          · cases h
        · cases h
theorem decR_cons (c : Col) (s : List Col) (b : List UInt8) : decR (c :: s) b = match decFd c.kind (if c.desc then b.map neg else b) with
    | none => none
    | some (f, n) => (decR s (b.drop n)).map (f :: ·) := by
  cases b <;> rfl

/-- What Decode answers: the list and the error. -/
def decV (s : List Col) (t : ByteArray) : List Fd × Int := if schOk s then (if t.size ≤ 64 then (match decR s t.data.toList with | some l => (l, 0) | none => ([], 4)) else ([], 4)) else ([], 1)
def DecP (r : List Fd × Int) (w : World) (e : Ending) (w' : World) : Prop := ∃ A c, e = .returned (.tuple #[.slice A r.1.length c, .int .i64 r.2]) ∧ Fds w' w'.heap.size A r.1 ∧ Below w.heap.size w w'
theorem decP_err {w w' : World} {n : Int} (h : Below w.heap.size w w') : DecP ([], n) w (.returned (.tuple #[.slice none 0 0, .int .i64 n])) w' := ⟨none, 0, rfl, Fds.nil _, h⟩

theorem extract_dropS (s : ByteArray) (n : Nat) : (s.extract n s.size).data.toList = s.data.toList.drop n := by
  rw [ByteArray.data_extract, Array.toList_extract]
  simp [List.extract_eq_take_drop]
  show List.take (s.data.toList.length - n) _ = _
  exact List.take_of_length_le (by simp)

theorem turn_any (yk : Int) (yd : Bool) (G cap : Nat) (l : List UInt8) (w : World) (hg : G < w.heap.size) (hl : l.length ≤ 2000000) (hc : ∀ j (hj : j < l.length), w.cell? ⟨G, j, none⟩ = some (.int .u8 (l[j].toNat : Int))) (hz : ∀ j, j < l.length → w.frozen? ⟨G, j, none⟩ = false) :
    Calls Tryd.prog 75 #[.agg #[.int .i64 yk, .bool yd], .slice (some ⟨G, 0, none⟩) l.length cap] w fun e w' => e = .returned (.tuple #[]) ∧ Below G w w' ∧ Bys w' w'.heap.size (some ⟨G, 0, none⟩) (if yd = true then l.map neg else l) := by
  cases yd
  · refine (turn_no yk _ w).mono ?_
    rintro e w' ⟨he, hb⟩
    refine ⟨he, hb.mono (Nat.le_of_lt hg), fun _ => ⟨G, 0, rfl, by have := hb.size; omega, fun j hj => ?_⟩⟩
    rw [Nat.zero_add]
    exact (hb.cell (p := ⟨G, j, none⟩) hg).trans (hc j hj)
  · refine (turn_yes yk G 0 cap l w hg hl (fun j hj => by rw [Nat.zero_add]; exact hc j hj) (fun j hj => by rw [Nat.zero_add]; exact hz j hj)).mono ?_
    rintro e w' ⟨he, w2, hb, rfl⟩
    refine ⟨he, turnW_below G G w (Nat.le_refl _) l w2 0 (hb.mono (Nat.le_of_lt hg)), fun _ => ⟨G, 0, rfl, by rw [turnW_size]; have := hb.size; omega, fun j hj => ?_⟩⟩
    simp only [if_true, List.length_map] at hj
    have := turnW_cell G l w2 0 j hj (fun i hi => ⟨_, by rw [Nat.zero_add]; exact (hb.cell (p := ⟨G, i, none⟩) hg).trans (hc i hi)⟩)
    rw [this]
    simp

set_option maxRecDepth 100000 in
set_option maxHeartbeats 3200000 in
theorem decode_any (A1 : Option Addr) (s : List Col) (c1 : Nat) (key : ByteArray) (w : World) (hs : Cols w w.heap.size A1 s) (hs63 : s.length ≤ 9223372036854775807) :
    Calls Tryd.prog 25 #[.slice A1 s.length c1, .string key] w (DecP (decV s key) w) := by
  cases hv : schOk s
  · have hr : decV s key = ([], 1) := by simp [decV, hv]
    rw [hr]
    have H1 := Lib.hid ((valid_any A1 s c1 w hs hs63).mono fun e w' h => (⟨by rw [h.1, hv], h.2⟩ : e = .returned (.bool false) ∧ Below w.heap.size w w'))
    clear hr hv
    go_enter Tryd.func25, Tryd.ntmps25
    go_wp2_with fail
    refine (H1.out).mono ?_
    rintro e w1 ⟨rfl, hb1⟩
    go_wp2_with fail
    go_ret2
    exact decP_err hb1
  · have H1 := Lib.hid ((valid_any A1 s c1 w hs hs63).mono fun e w' h => (⟨by rw [h.1, hv], h.2⟩ : e = .returned (.bool true) ∧ Below w.heap.size w w'))
    have hsl : s.length ≤ 6 := (schOk_len hv).2
    by_cases h64 : key.size ≤ 64
    · have hr : decV s key = (match decR s key.data.toList with | some l => (l, 0) | none => ([], 4)) := by simp [decV, hv, h64]
      obtain ⟨R, hR⟩ : ∃ R, R = decR s key.data.toList := ⟨_, rfl⟩
      rw [← hR] at hr
      have HE := Lib.hid hr
      have HR := Lib.hid hR
      have hd : decide (key.size ≤ 64) = true := by simpa using h64
      have HV := Lib.hid (fun W => ((vk_any key W).mono fun e w' h => (⟨by rw [h.1, hd], h.2⟩ : e = .returned (.bool true) ∧ W = w')))
      clear hr hR hd hv
      generalize decV s key = DV at *
      obtain ⟨inf, hif, hif1, hif2, hif3⟩ := infoF_parts
      go_enter Tryd.func25, Tryd.ntmps25
      go_wp2_with fail
      refine (H1.out).mono ?_
      rintro e w1 ⟨rfl, hb1⟩
      go_wp2_with fail
      refine (HV.out w1).mono ?_
      rintro e w' ⟨rfl, rfl⟩
      clear H1 HV
      go_wp2_with fail
      go_loopw [1, 6, 20] (fun a b i wr => ∃ (kb : ByteArray) (A2 : Option Addr) (c2 k : Nat) (fs : List Fd), a = .string kb ∧ b = .slice A2 fs.length c2 ∧ k ≤ s.length ∧ i = .int .i64 (k : Int) ∧ OwnF wr w.heap.size (.slice A2 fs.length c2) fs ∧ Below w.heap.size w wr ∧ fs.length ≤ k ∧ kb.size ≤ 64 ∧ Hid (R = (decR (s.drop k) kb.data.toList).map (fs ++ ·))) (fun _ _ i _ => s.length - (intOf i).toNat)
      case atStart => exact ⟨key, none, 0, 0, [], rfl, rfl, by omega, rfl, OwnF.nil _ _, hb1, by simp, h64, Lib.hid (by rw [HR.out, List.drop_zero]; cases decR s key.data.toList <;> rfl)⟩
      case round =>
        clear hb1
        obtain ⟨kb, A2, c2, k, fs, rfl, rfl, hk, rfl, ho, hB, hfl, hkb, HD⟩ := hrel
        by_cases hlt : k < s.length
        · obtain ⟨b0, o0, hA0, hz0, d1, d2⟩ := hs.at_ hlt
          have hdr := HD.out
          rw [List.drop_eq_getElem_cons hlt, decR_cons] at hdr
          subst hA0
          generalize s[k] = y at *
          obtain ⟨yk, yd⟩ := y
          replace d1 := (hB.cell (p := ⟨b0, o0 + k * 2, none⟩) hz0).trans d1
          replace d2 := (hB.cell (p := ⟨b0, o0 + k * 2 + 1, none⟩) hz0).trans d2
          obtain ⟨cap, w2, hcv, hcap, hb2, hsz2, hcells, hfz⟩ := conv_c (wr.alloc (.cells #[.int .i64 yk, .bool yd] 33)) kb
          have HDR := Lib.hid hdr
          have hP := Has.new wr 33 #[.int .i64 yk, .bool yd]
          have hBa := hB.alloc hB.size (.cells #[.int .i64 yk, .bool yd] 33)
          have hal := (Below.refl wr.heap.size wr).alloc (Nat.le_refl _) (.cells #[.int .i64 yk, .bool yd] 33)
          have hP2 := hP.below hb2
          have p0 : w2.cell? ⟨wr.heap.size, 0, none⟩ = some (.int .i64 yk) := hP2.cell 0
          have p1 : w2.cell? ⟨wr.heap.size, 1, none⟩ = some (.bool yd) := hP2.cell 1
          have HC := Lib.hid hcells
          have HF := Lib.hid hfz
          have i0 : (0 : Int) ≤ (k : Int) := by omega
          clear hdr HD hcells hfz hs
          have hT : Calls Tryd.prog 75 #[.agg #[.int .i64 yk, .bool yd], .slice (some ⟨wr.heap.size + 1, 0, none⟩) kb.size cap] w2 (fun e w' => e = .returned (.tuple #[]) ∧ Below (wr.heap.size + 1) w2 w' ∧ Bys w' w'.heap.size (some ⟨wr.heap.size + 1, 0, none⟩) (if yd = true then kb.data.toList.map neg else kb.data.toList)) := by
            rw [World.size_alloc] at hsz2
            exact turn_any yk yd (wr.heap.size + 1) cap kb.data.toList w2 hsz2 (show kb.size ≤ 2000000 by omega) (fun j hj => by have := HC.out j hj; rw [World.size_alloc] at this; exact this) (fun j hj => by have := HF.out j hj; rw [World.size_alloc] at this; exact this)
          have HT := Lib.hid hT
          have hB2 := hBa.trans (hb2.mono hBa.size)
          have ho2 := ho.below (hal.trans (hb2.mono hal.size))
          rw [World.size_alloc] at hb2
          have hwr := hb2.size
          rw [World.size_alloc] at hwr
          clear hT HC HF
          go_wp2_with fail
          refine (HT.out).mono ?_
          rintro e w3 ⟨rfl, hb3, hby3⟩
          clear HT
          obtain ⟨bs, hbs⟩ : ∃ bs, bs = (if yd = true then kb.data.toList.map neg else kb.data.toList) := ⟨_, rfl⟩
          have hbl : bs.length = kb.size := by rw [hbs]; split <;> simp
          rw [← hbs] at hby3
          have q0 : w3.cell? ⟨wr.heap.size, 0, none⟩ = some (.int .i64 yk) := (hb3.cell (p := ⟨wr.heap.size, 0, none⟩) (Nat.lt_succ_self _)).trans p0
          have ho3 : OwnF w3 w.heap.size (.slice A2 fs.length c2) fs := ho.below ((hal.trans (hb2.mono (Nat.le_succ _))).trans (hb3.mono (Nat.le_succ _)))
          have hB3 : Below w.heap.size w w3 := hB2.trans (hb3.mono (by have := hB.size; omega))
          have hdf := decodeField_any yk (some ⟨wr.heap.size + 1, 0, none⟩) bs cap w3 hby3 (by omega) (by omega)
          rw [hbl] at hdf
          have HDF := Lib.hid hdf
          have HBL := Lib.hid hbl
          have hdr2 := HDR.out
          rw [show (if (⟨yk, yd⟩ : Col).desc = true then kb.data.toList.map neg else kb.data.toList) = bs from hbs.symm] at hdr2
          clear hdf hbl hbs HDR p0 p1 hP hP2 hBa hal hcv hb2 hb3 hby3 ho ho2 hB hB2 d1 d2 hcap hsz2 hwr
          rcases hdd : decFd yk bs with _ | ⟨⟨fk, fn, ft⟩, n⟩
          · have HD1 : Hid (fdV (decFd yk bs) = .tuple #[.agg #[.int .i64 0, .int .i64 0, .string ⟨#[]⟩], .int .i64 0]) := Lib.hid (by rw [hdd]; rfl)
            have HN : Hid (DV = ([], 4)) := Lib.hid (by rw [HE.out, hdr2]; simp [hdd])
            clear hdr2 hdd
            go_wp2_with fail
            refine (HDF.out).mono ?_
            rintro e w4 ⟨he, hb4⟩
            rw [HD1.out] at he
            subst he
            have hB4 := hB3.trans (hb4.mono hB3.size)
            clear HDF
            go_wp2_with fail
            go_ret2
            rw [HN.out]
            exact decP_err (hB4.alloc hB4.size _)
          · have HD1 : Hid (fdV (decFd yk bs) = .tuple #[.agg #[.int .i64 fk, .int .i64 fn, .string ft], .int .i64 (n : Int)]) := Lib.hid (by rw [hdd]; rfl)
            obtain ⟨hn1, hn2⟩ := decFd_pos hdd
            have hn3 : n ≤ kb.size := by have := HBL.out; omega
            have HN : Hid (R = (decR (s.drop (k + 1)) (kb.data.toList.drop n)).map ((fs ++ [⟨fk, fn, ft⟩]) ++ ·)) := Lib.hid (by
              rw [hdr2]
              simp only [hdd]
              cases decR (s.drop (k + 1)) (kb.data.toList.drop n) <;> simp)
            clear hdr2 hdd
            go_wp2_with fail
            refine (HDF.out).mono ?_
            rintro e w4 ⟨he, hb4⟩
            rw [HD1.out] at he
            subst he
            have hB4 := hB3.trans (hb4.mono hB3.size)
            have ho4 := ho3.below hb4
            have hB5 := hB4.alloc hB4.size (.cells #[.int .i64 fk, .int .i64 fn, .string ft] 98)
            have ho5 := ho4.below ((Below.refl _ _).alloc (Nat.le_refl _) (.cells #[.int .i64 fk, .int .i64 fn, .string ft] 98))
            have t1 : ((n : Int) == 0) = false := by simp; omega
            have j1 : (n : Int) ≤ (kb.size : Int) := by omega
            have j2 : (0 : Int) ≤ (n : Int) := by omega
            have hbs5 := hB5.size
            have hP5 := Has.new w4 98 #[.int .i64 fk, .int .i64 fn, .string ft]
            have r0 : (w4.alloc (.cells #[.int .i64 fk, .int .i64 fn, .string ft] 98)).cell? ⟨w4.heap.size, 0, none⟩ = some (.int .i64 fk) := hP5.cell 0
            have r1 : (w4.alloc (.cells #[.int .i64 fk, .int .i64 fn, .string ft] 98)).cell? ⟨w4.heap.size, 1, none⟩ = some (.int .i64 fn) := hP5.cell 1
            have r2 : (w4.alloc (.cells #[.int .i64 fk, .int .i64 fn, .string ft] 98)).cell? ⟨w4.heap.size, 2, none⟩ = some (.string ft) := hP5.cell 2
            clear hP5 HDF HBL hB4 ho4 hB3 ho3 hb4 HD1 q0 hn2
            go_wp2_with (at_builtin; refine wpList_pushF rfl _ _ 24 rfl w.heap.size inf Tryd.underlying24 hif hif1 hif2 hif3 (.slice A2 fs.length c2) fs _ ⟨fk, fn, ft⟩ rfl ho5 (by rw [World.size_alloc]; rfl) (by omega) hbs5 ?_; intro v2 w6 ho6 hb6; obtain ⟨fs2, hfs2⟩ : ∃ fs2, fs2 = fs ++ [(⟨fk, fn, ft⟩ : Fd)] := ⟨_, rfl⟩; rw [← hfs2] at ho6; have hfl2 : fs2.length = fs.length + 1 := (by rw [hfs2]; simp); have HF2 := Lib.hid hfs2; have HL2 := Lib.hid hfl2; clear hfs2 hfl2; obtain ⟨A3, c3, rfl, hr6⟩ := ho6.read)
            exact ⟨⟨_, A3, c3, k + 1, fs2, rfl, rfl, hlt, by go_num, ho6, hB5.trans hb6, by have := HL2.out; omega, by rw [ByteArray.size_extract]; omega, Lib.hid (by rw [HN.out, HF2.out, extract_dropS])⟩, by simp [intOf]; omega⟩
        · have hD2 : R = (decR [] kb.data.toList).map (fs ++ ·) := by rw [HD.out, List.drop_eq_nil_of_le (by omega)]
          by_cases hz : kb.size = 0
          · have hte : (kb.toList == []) = true := by
              rw [toList_data]
              rw [show kb.data.toList = [] from List.eq_nil_of_length_eq_zero hz]
              rfl
            have HN : Hid (DV = (fs, 0)) := Lib.hid (by
              rw [HE.out, hD2, show kb.data.toList = [] from List.eq_nil_of_length_eq_zero hz]
              simp [decR])
            obtain ⟨A5, c5, e5, hr5⟩ := ho.read
            clear hD2 HD hz
            go_wp2_with fail
            go_ret2
            rw [HN.out]
            exact ⟨_, _, rfl, hr5, hB⟩
          · have hte : (kb.toList == []) = false := by
              rw [toList_data, ← Bool.not_eq_true, beq_iff_eq]
              intro h
              exact hz (show kb.data.toList.length = 0 by rw [h]; rfl)
            have HN : Hid (DV = ([], 4)) := Lib.hid (by
              rw [HE.out, hD2]
              rcases hh : kb.data.toList with _ | ⟨x, r⟩
              · exact absurd (show kb.data.toList.length = 0 by rw [hh]; rfl) hz
              · simp [decR])
            clear hD2 HD hz
            go_wp2_with fail
            go_ret2
            rw [HN.out]
            exact decP_err hB
    · have hr : decV s key = ([], 4) := by simp [decV, hv, h64]
      rw [hr]
      have hd : decide (key.size ≤ 64) = false := by simpa using h64
      clear hr hv h64
      go_enter Tryd.func25, Tryd.ntmps25
      go_wp2_with fail
      refine (H1.out).mono ?_
      rintro e w1 ⟨rfl, hb1⟩
      go_wp2_with fail
      refine (vk_any key w1).mono ?_
      rintro e w' ⟨he, rfl⟩
      rw [hd] at he
      subst he
      go_wp2_with fail
      go_ret2
      exact decP_err hb1
end Go.Proofs.YtlnmpiigmedgkaaDoor
