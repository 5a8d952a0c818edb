/-
  Maps from numbers to values; linksByNumber and nodesByNumber of package inspect. Conditions: what is read can be read; no list is longer than a slice may be.
  Normal of package inspect. Conditions: the nodes and links can be read; numbers of elements are of 64 bits.
-/
import Derived.Test.YtjokbdhineilcaaGreatDoorLmA
import Derived.Test.YtjokbdhineilcaaGreatDoorLjR
import Derived.Test.YtjokbdhineilcaaGreatDoorLmG
import Derived.Test.YtjokbdhineilcaaGreatDoorLoA
namespace Go.Proofs.YtjokbdhineilcaaGreatDoor
section
open Go.RowKit Go.Maps

def vElem : Value → Option (DataW Value × List MemPlace) := fun v => some (.held v, [])
theorem vElem_inv {v u : Value} {ps : List MemPlace} (h : vElem v = some (.held u, ps)) : v = u := by
  unfold vElem at h
  injection h with h
  injection h with h _
  injection h
/-- Block b is a map from numbers to values; z where there is none. -/
def VMap (w : World) (b n : Nat) (z : Value) (f : Int → Option Value) : Prop := ∃ D : DataW Value, w.ownsMap Tryz.prog 3 vElem b n D ∧ ∀ i : Int, -9223372036854775808 ≤ i → i ≤ 9223372036854775807 → Maps.has D (.int .i64 i) = (f i).isSome ∧ D.atKey (.int .i64 i) (.held z) = .held ((f i).getD z)
def updV (f : Int → Option Value) (k : Int) (v : Value) : Int → Option Value := fun i => if i = k then some v else f i
section
variable {w w' : World} {b n : Nat} {z : Value} {f : Int → Option Value}
theorem VMap.kept (h : VMap w b n z f) {row : Option Nat} (hg : w.grownBy w' row) (hne : some b ≠ row) : VMap w' b n z f := by
  obtain ⟨D, h1, h2⟩ := h
  exact ⟨D, h1.kept hg hne, h2⟩
theorem VMap.below (h : VMap w b n z f) (k : Below w.heap.size w w') : VMap w' b n z f := h.kept (row := none) ⟨k.os, k.tape, k.output, k.size, fun i hi _ => k.block i hi⟩ (by simp)
theorem VMap.lt (h : VMap w b n z f) : b < w.heap.size := by obtain ⟨D, h1, _⟩ := h; exact h1.lt
theorem VMap.setC (h : VMap w b n z f) {p : Addr} (hp : b ≠ p.block) (u : Value) : VMap (w.setCell p u) b n z f := by
  obtain ⟨D, h1, h2⟩ := h
  exact ⟨D, h1.setCell hp u, h2⟩
theorem VMap.congr {g : Int → Option Value} (h : VMap w b n z f) (k : ∀ i, f i = g i) : VMap w b n z g := by
  obtain ⟨D, h1, h2⟩ := h
  exact ⟨D, h1, fun i a c => by rw [← k i]; exact h2 i a c⟩
theorem VMap.ne_has (h : VMap w b n z f) {X : Nat} {t : TypeId} {cs : Array Value} (k : Has w X t cs) : b ≠ X := by
  rintro rfl
  obtain ⟨D, ⟨es, clock, h1, _⟩, _⟩ := h
  unfold Has at k
  rw [h1] at k
  cases k
theorem VMap.look {t e : TypeId} (h : VMap w b n z f) (ht : Tryz.prog.underlying t = some (.map 3 e)) (hz : (zeroValue e).run Tryz.prog w = .ok z w) {i : Int} (h1 : -9223372036854775808 ≤ i) (h2 : i ≤ 9223372036854775807) : (Instr.lookup t (.map (some b)) (.int .i64 i) false).run Tryz.prog w = .ok ((f i).getD z) w := by
  obtain ⟨D, k1, k2⟩ := h
  obtain ⟨v, ps, hrun, hv⟩ := k1.lookup lawInt ht hz (zd := .held z) (zp := []) rfl (key := .int .i64 i) (kl := .int .i64 i) (keyOf_int_mk Tryz.underlying3 (WalkArith.wf_i64 ⟨h1, h2⟩))
  rw [(k2 i h1 h2).2] at hv
  rw [hrun, vElem_inv hv]
theorem VMap.look_ok {t e : TypeId} (h : VMap w b n z f) (ht : Tryz.prog.underlying t = some (.map 3 e)) (hz : (zeroValue e).run Tryz.prog w = .ok z w) {i : Int} (h1 : -9223372036854775808 ≤ i) (h2 : i ≤ 9223372036854775807) : (Instr.lookup t (.map (some b)) (.int .i64 i) true).run Tryz.prog w = .ok (.tuple #[(f i).getD z, .bool (f i).isSome]) w := by
  obtain ⟨D, k1, k2⟩ := h
  obtain ⟨v, ps, hrun, hv⟩ := k1.look_ok lawInt ht hz (zd := .held z) (zp := []) rfl (key := .int .i64 i) (kl := .int .i64 i) (keyOf_int_mk Tryz.underlying3 (WalkArith.wf_i64 ⟨h1, h2⟩))
  rw [(k2 i h1 h2).2] at hv
  rw [hrun, vElem_inv hv, (k2 i h1 h2).1]
end
theorem VMap.made (w : World) (z : Value) : VMap (w.alloc (.map #[] 0)) w.heap.size 0 z (fun _ => none) := ⟨.map [], World.ownsMap_made _ _ _ _, fun _ _ _ => ⟨rfl, rfl⟩⟩
theorem CK.vmap {w w' : World} {b n : Nat} {z : Value} {f : Int → Option Value} (h : VMap w b n z f) (hg : w.grownBy w' (some b)) : CK w w' := fun p v e => by
  have hlt := World.block_lt_of_cell? w p e
  by_cases hb : p.block = b
  · exfalso
    obtain ⟨D, ⟨es, clock, h1, _⟩, _⟩ := h
    unfold World.cell? at e
    rw [hb, h1] at e
    simp at e
  · exact (World.cell?_of_block (hg.block p.block hlt (fun e2 => hb (Option.some.inj e2)))).trans e
/-- m[k] = v. -/
theorem wpList_vput (w : World) {ops : Array Oper} {rest : List Oper} {o : Oper} {a : Act} {Q : Exit → Act → World → Prop} (hg : o.guard = none) (m x v : Operand) (t : TypeId) (hop : o.op = Op.mapUpdate t m x v)
    (e : TypeId) (ht : Tryz.prog.underlying t = some (.map 3 e)) (b n : Nat) (z : Value) (f : Int → Option Value) (h : VMap w b n z f) (hm : a.eval m = .map (some b)) (hn : n < maxLen) (k : Int) (hk : -9223372036854775808 ≤ k ∧ k ≤ 9223372036854775807) (u : Value) (hx : a.eval x = .int .i64 k) (hv : a.eval v = u)
    (hK : ∀ w', VMap w' b (n + 1) z (updV f k u) → w.grownBy w' (some b) → wpList Tryz.prog ops Q rest (a.put o.dst undef) w') : wpList Tryz.prog ops Q (o :: rest) a w := by
  obtain ⟨D, h1, h2⟩ := h
  refine wpList_mapUpdate_own w hg m x v t hop 3 e lawInt ht vElem b n D hm h1 hn (.int .i64 k) u (.int .i64 k) hx hv (keyOf_int_mk Tryz.underlying3 (WalkArith.wf_i64 hk)) (.held u) [] rfl ?_
  intro w' h3 hg'
  refine hK w' ⟨_, h3, fun i a1 a2 => ?_⟩ hg'
  unfold updV
  by_cases e : i = k
  · subst e
    simp only [if_true]
    exact ⟨has_put_same (k := .int .i64 i) h1.isMap trivial _, atKey_put_same (k := .int .i64 i) h1.isMap trivial _ _⟩
  · have hne : (Lit.int .i64 i) ≠ .int .i64 k := fun e2 => by injection e2 with _ e2; exact e e2
    simp only [if_neg e]
    rw [has_put_other hne, atKey_put_other hne]
    exact h2 i a1 a2
def VMapP (z : Value) (f : Int → Option Value) (w : World) (e : Ending) (w' : World) : Prop := ∃ b n, e = .returned (.map (some b)) ∧ VMap w' b n z f ∧ Below w.heap.size w w'

/-! links, with the values that hold their levels -/
def LdsV (w : World) (B : Nat) (A : Option Addr) (l : List Ld) (q : List Value) : Prop :=
  q.length = l.length ∧ ∀ (i : Nat) (h : i < l.length) (hq : i < q.length), ∃ b o, A = some ⟨b, o, none⟩ ∧ b < B ∧ w.cell? ⟨b, o + i * 2, none⟩ = some (.int .i64 l[i].id) ∧ w.cell? ⟨b, o + i * 2 + 1, none⟩ = some q[i] ∧ ∃ (A' : Option Addr) (c' : Nat), q[i] = .slice A' l[i].levels.length c' ∧ l[i].levels.length ≤ c' ∧ c' ≤ maxLen ∧ Lks w B A' l[i].levels
theorem LdsV.of {w : World} {B : Nat} {A : Option Addr} {l : List Ld} (h : Lds w B A l) : ∃ q, LdsV w B A l q := by
  have hc : ∀ i : Fin l.length, ∃ v : Value, ∃ b o, A = some ⟨b, o, none⟩ ∧ b < B ∧ w.cell? ⟨b, o + i.1 * 2, none⟩ = some (.int .i64 l[i.1].id) ∧ w.cell? ⟨b, o + i.1 * 2 + 1, none⟩ = some v ∧ ∃ (A' : Option Addr) (c' : Nat), v = .slice A' l[i.1].levels.length c' ∧ l[i.1].levels.length ≤ c' ∧ c' ≤ maxLen ∧ Lks w B A' l[i.1].levels := fun i => by
    obtain ⟨b, o, e, hb, h1, A', c', h2, h3, h4, h5⟩ := h.at_ i.2
    exact ⟨_, b, o, e, hb, h1, h2, A', c', rfl, h3, h4, h5⟩
  refine ⟨List.ofFn fun i => Classical.choose (hc i), by simp, fun i hi hq => ?_⟩
  simp only [List.getElem_ofFn]
  exact Classical.choose_spec (hc ⟨i, hi⟩)
def fstF (l : List Ld) (q : List Value) (i : Int) : Option Value := ((l.zip q).find? fun p => decide (p.1.id = i)).map Prod.snd
theorem fstF_next {l : List Ld} {q : List Value} {k : Nat} (h1 : k < l.length) (h2 : k < q.length) (i : Int) : fstF (l.take (k + 1)) (q.take (k + 1)) i = (fstF (l.take k) (q.take k) i).or (if l[k].id = i then some q[k] else none) := by
  unfold fstF
  have e : (l.take (k + 1)).zip (q.take (k + 1)) = (l.take k).zip (q.take k) ++ [(l[k], q[k])] := by
    rw [List.take_succ_eq_append_getElem h1, List.take_succ_eq_append_getElem h2, List.zip_append (by simp; omega)]
    rfl
  rw [e, List.find?_append]
  cases h : ((l.take k).zip (q.take k)).find? fun p => decide (p.1.id = i) with
  | some p => simp
  | none =>
    by_cases hk : l[k].id = i
    · simp [hk]
    · simp [hk]
theorem fstF_old {l : List Ld} {q : List Value} {k : Nat} (h1 : k < l.length) (h2 : k < q.length) (h : (fstF (l.take k) (q.take k) l[k].id).isSome = true) (i : Int) : fstF (l.take k) (q.take k) i = fstF (l.take (k + 1)) (q.take (k + 1)) i := by
  rw [fstF_next h1 h2]
  by_cases e : l[k].id = i
  · subst e
    obtain ⟨v, hv⟩ := Option.isSome_iff_exists.1 h
    rw [hv]
    simp
  · rw [if_neg e, Option.or_none]
theorem fstF_new {l : List Ld} {q : List Value} {k : Nat} (h1 : k < l.length) (h2 : k < q.length) (h : (fstF (l.take k) (q.take k) l[k].id).isSome = false) (i : Int) : updV (fstF (l.take k) (q.take k)) l[k].id q[k] i = fstF (l.take (k + 1)) (q.take (k + 1)) i := by
  rw [fstF_next h1 h2]
  unfold updV
  by_cases e : i = l[k].id
  · subst e
    have : fstF (l.take k) (q.take k) l[k].id = none := by simpa using h
    rw [this]
    simp
  · rw [if_neg e, if_neg (Ne.symm e), Option.or_none]
theorem zeroLks (w : World) : (zeroValue 54).run Tryz.prog w = .ok (.slice none 0 0) w := by kernel_rfl
theorem zeroNd (w : World) : (zeroValue 25).run Tryz.prog w = .ok (.agg #[.int .i64 0, .string ByteArray.empty, .int .u32 0]) w := by kernel_rfl

set_option maxRecDepth 100000 in
set_option maxHeartbeats 1600000 in
theorem linksByNumber_any (A : Option Addr) (l : List Ld) (q : List Value) (c : Nat) (w : World) (hl : LdsV w w.heap.size A l q) (hI : ∀ x ∈ l, -9223372036854775808 ≤ x.id ∧ x.id ≤ 9223372036854775807) (hn : l.length ≤ maxLen) :
    Calls Tryz.prog 59 #[.slice A l.length c] w (VMapP (.slice none 0 0) (fstF l q) w) := by
  have hb0 := (Below.refl w.heap.size w).alloc (Nat.le_refl _) (.map #[] 0)
  have HM0 := Lib.hid (VMap.made w (.slice none 0 0))
  have HB0 := Lib.hid hb0
  have HQ := Lib.hid hl.1
  have HL := Lib.hid hl.2
  have HI := Lib.hid hI
  have HF0 : Hid (fstF (l.take 0) (q.take 0) = fun _ => none) := Lib.hid (by funext i; simp [fstF])
  have HFE : Hid (∀ k, l.length ≤ k → fstF (l.take k) (q.take k) = fstF l q) := Lib.hid fun k hk => by rw [List.take_of_length_le hk, List.take_of_length_le (by rw [hl.1]; exact hk)]
  have HOLD := Lib.hid (fun (k : Nat) (h1 : k < l.length) (h2 : k < q.length) h => fstF_old h1 h2 h)
  have HNEW := Lib.hid (fun (k : Nat) (h1 : k < l.length) (h2 : k < q.length) h => fstF_new h1 h2 h)
  clear hl hI hb0
  have hmm := @run_makeMap Tryz.prog
  have hml : maxLen ≤ 9223372036854775807 := by decide
  obtain ⟨N, hN⟩ : ∃ N, N = l.length := ⟨_, rfl⟩
  have HN := Lib.hid hN
  rw [← hN] at hn ⊢
  obtain ⟨b, hb⟩ : ∃ b, b = w.heap.size := ⟨_, rfl⟩
  have HBB := Lib.hid hb
  rw [← hb] at HM0
  clear hN
  go_enter Tryz.func59, Tryz.ntmps59
  go_wp2_with fail
  rw [← hb]
  clear hb
  go_loopw [11] (fun vk wr => ∃ k : Nat, vk = .int .i64 (k : Int) ∧ k ≤ N ∧ Below w.heap.size w wr ∧ ∃ n, n ≤ k ∧ VMap wr b n (.slice none 0 0) (fstF (l.take k) (q.take k))) (fun vk _ => N - (intOf vk).toNat)
  case atStart => exact ⟨0, rfl, by omega, HB0.out, 0, by omega, by rw [HF0.out]; exact HM0.out⟩
  case round =>
    clear HB0 HM0
    obtain ⟨k, rfl, hk, hB, n, hnk, hM⟩ := hrel
    by_cases hlt : k < N
    · have k1 : k < l.length := by rw [← HN.out]; exact hlt
      have k2 : k < q.length := by rw [HQ.out]; exact k1
      obtain ⟨b2, o2, e2, hb2, f1, f2, -⟩ := HL.out k k1 k2
      subst e2
      have hyi := HI.out _ (List.getElem_mem k1)
      have HO1 := Lib.hid (fun h => HOLD.out k k1 k2 h)
      have HN1 := Lib.hid (fun h => HNEW.out k k1 k2 h)
      generalize hF' : fstF (l.take (k + 1)) (q.take (k + 1)) = F' at *
      have HFP := Lib.hid hF'
      clear hF'
      generalize fstF (l.take k) (q.take k) = F at *
      obtain ⟨A', c', hq, -⟩ : ∃ (A' : Option Addr) (c' : Nat), q[k] = .slice A' l[k].levels.length c' ∧ True := by
        obtain ⟨_, _, _, _, _, _, A', c', h, _⟩ := HL.out k k1 k2
        exact ⟨A', c', h, trivial⟩
      rw [hq] at f2 HN1
      clear hq
      generalize l[k].levels.length = m at *
      generalize l[k].id = yi at *
      replace f1 := (hB.cell (p := ⟨b2, o2 + k * 2, none⟩) hb2).trans f1
      replace f2 := (hB.cell (p := ⟨b2, o2 + k * 2 + 1, none⟩) hb2).trans f2
      have i0 : (0 : Int) ≤ (k : Int) := by omega
      have i1 : (k : Int) < (N : Int) := by omega
      have hX := Has.new wr 56 #[.int .i64 yi, .slice A' m c']
      have x0 := hX.cell 0
      have x1 := hX.cell 1
      have hbX := (Below.refl wr.heap.size wr).alloc (Nat.le_refl _) (.cells #[.int .i64 yi, .slice A' m c'] 56)
      have HBX := Lib.hid (hB.trans (hbX.mono hB.size))
      have hMX := hM.below hbX
      have hbne : b ≠ wr.heap.size := by have := hM.lt; omega
      have HHX := Lib.hid hX
      have HMX := Lib.hid hMX
      have hlk := hMX.look_ok Tryz.underlying68 (zeroLks _) hyi.1 hyi.2
      obtain ⟨fb, hfb⟩ : ∃ fb, fb = (F yi).isSome := ⟨_, rfl⟩
      obtain ⟨fv, hfv⟩ : ∃ fv, fv = (F yi).getD (.slice none 0 0) := ⟨_, rfl⟩
      rw [← hfb, ← hfv] at hlk
      have HFB := Lib.hid hfb
      have HHB := Lib.hid hbne
      clear hfb hfv hX hbX hM hMX hB k1 k2 hbne
      cases fb
      · go_wp2_with (at_mapUpdate; refine wpList_vput _ rfl _ _ _ 68 rfl 54 Tryz.underlying68 b n _ F HMX.out rfl (by omega) yi hyi (.slice A' m c') rfl rfl ?_; intro w5 hm5 hgr5; have x05 := (World.cell?_of_block (a := ⟨wr.heap.size, 0, none⟩) (hgr5.block wr.heap.size HHX.out.lt (fun e => HHB.out (Option.some.inj e).symm))).trans (HHX.out.cell 0); have HM5 := Lib.hid hm5; have HB5 := Lib.hid (HBX.out.grown hgr5 HBX.out.size (fun j e => (by have := Option.some.inj e; have := HBB.out; omega))); clear hm5 hgr5)
        exact ⟨⟨k + 1, by go_num, hlt, HB5.out, n + 1, by omega, by rw [HFP.out]; exact HM5.out.congr (HN1.out HFB.out.symm)⟩, by simp [intOf]; omega⟩
      · go_wp2_with fail
        exact ⟨⟨k + 1, by go_num, hlt, HBX.out, n, by omega, by rw [HFP.out]; exact HMX.out.congr (HO1.out HFB.out.symm)⟩, by simp [intOf]; omega⟩
    · have hkn : l.length ≤ k := by rw [← HN.out]; omega
      rw [HFE.out k hkn] at hM
      have HMF := Lib.hid hM
      clear hM
      go_wp2_with fail
      go_ret
      exact ⟨b, n, rfl, HMF.out, hB⟩

def ndF (l : List Nd) (i : Int) : Option Value := (l.reverse.find? fun x => decide (x.id = i)).map Nd.val
theorem ndF_next {l : List Nd} {k : Nat} (h : k < l.length) (i : Int) : updV (ndF (l.take k)) l[k].id l[k].val i = ndF (l.take (k + 1)) i := by
  unfold ndF updV
  rw [List.take_succ_eq_append_getElem h, List.reverse_append]
  by_cases e : i = l[k].id
  · subst e
    simp
  · simp [e, Ne.symm e]
end
section
open Go.RowKit

/-- The levels of the element of a number. -/
def levV (k : List Ld) (i : Int) : List Lk := ((k.find? fun x => decide (x.id = i)).map Ld.levels).getD []
/-- n levels, with zero links behind those that are there. -/
def padK (ls : List Lk) (n : Nat) : List Lk := ls.take n ++ List.replicate (n - ls.length) zK
theorem padK_len (ls : List Lk) (n : Nat) : (padK ls n).length = n := by
  unfold padK
  rw [List.length_append, List.length_take, List.length_replicate]
  omega
theorem at_lev (k : List Ld) (i : Int) (t : Nat) : atV k i (t : Int) = ((levV k i)[t]?).getD zK := by
  unfold atV levV
  cases k.find? fun x => decide (x.id = i) with
  | none => simp [zK]
  | some x => simp [zK]
theorem padK_get (ls : List Lk) {n t : Nat} (ht : t < n) : (padK ls n)[t]? = some ((ls[t]?).getD zK) := by
  unfold padK
  rw [List.getElem?_append, List.length_take]
  rcases Nat.lt_or_ge t ls.length with h | h
  · rw [if_pos (by omega), List.getElem?_take_of_lt ht, List.getElem?_eq_getElem h, Option.getD_some]
  · rw [if_neg (by omega), List.getElem?_eq_none h, List.getElem?_replicate, if_pos (by omega), Option.getD_none]
theorem pad_lev (k : List Ld) (i : Int) (n : Nat) : padK (levV k i) n = (List.range n).map fun (t : Nat) => atV k i (t : Int) := by
  refine List.ext_getElem? fun t => ?_
  rcases Nat.lt_or_ge t n with h | h
  · rw [padK_get _ h, List.getElem?_map, List.getElem?_range h, Option.map_some, at_lev]
  · rw [List.getElem?_eq_none (by rw [padK_len]; exact h), List.getElem?_eq_none (by simpa using h)]
set_option maxRecDepth 100000 in
theorem fstF_val {w : World} {B : Nat} {A : Option Addr} {k : List Ld} {q : List Value} (h : LdsV w B A k q) (i : Int) : ∃ A' c', (fstF k q i).getD (.slice none 0 0) = .slice A' (levV k i).length c' ∧ (levV k i).length ≤ c' ∧ c' ≤ maxLen ∧ Lks w B A' (levV k i) := by
  obtain ⟨hq, hc⟩ := h
  unfold fstF levV
  cases hf : (k.zip q).find? fun p => decide (p.1.id = i) with
  | none =>
    have : k.find? (fun x => decide (x.id = i)) = none := by
      rw [List.find?_eq_none] at hf ⊢
      intro x hx
      obtain ⟨j, hj, rfl⟩ := List.mem_iff_getElem.1 hx
      exact hf (k[j], q[j]'(by omega)) (List.mem_iff_getElem.2 ⟨j, by simp; omega, by simp⟩)
    rw [this]
    exact ⟨none, 0, rfl, Nat.le_refl _, by unfold maxLen; omega, fun h => absurd rfl h⟩
  | some p =>
    obtain ⟨h1, us, vs, h2, h3⟩ := List.find?_eq_some_iff_append.1 hf
    have hlen := congrArg List.length h2
    simp at hlen
    have hj : us.length < k.length := by omega
    have e1 : (k.zip q)[us.length]'(by simp; omega) = p := by
      simp only [h2]
      simp
    have e2 : p = (k[us.length], q[us.length]'(by omega)) := by rw [← e1]; simp
    have hfk : k.find? (fun x => decide (x.id = i)) = some k[us.length] := by
      rw [List.find?_eq_some_iff_getElem]
      refine ⟨by rw [e2] at h1; exact h1, us.length, hj, rfl, fun j hj2 => ?_⟩
      have h4 := h3 ((k.zip q)[j]'(by simp; omega)) (by
        have : (k.zip q)[j]'(by simp; omega) = us[j] := by
          simp only [h2]
          rw [List.getElem_append_left hj2]
        rw [this]
        exact List.getElem_mem _)
      simpa using h4
    rw [hfk]
    obtain ⟨_, _, _, _, _, _, A', c', h4, h5, h6, h7⟩ := hc us.length hj (by omega)
    refine ⟨A', c', ?_, h5, h6, h7⟩
    simp only [Option.map_some, Option.getD_some]
    rw [e2]
    exact h4
theorem run_copyL {P : Program} (w : World) (dT sT ty elem : TypeId) (k g o dLen dCap : Nat) (a : Addr) (sLen sCap : Nat) (cur : Array Value) (t : TypeId) (n : Nat) (cs : List Value)
    (hu : P.underlying dT = some (.slice elem)) (hs : (P.info? elem).map (·.size) = some k)
    (hg : w.heap[g]? = some (.cells cur t (0, 0))) (hn : n = Nat.min sLen dLen) (hcs : cs.length = n * k)
    (hsrc : ∀ j v, cs[j]? = some v → w.cell? (a.add j) = some v) (hfit : o + cs.length ≤ cur.size) (h1 : ∀ v ∈ cs, v.oneCell' = true) :
    (Builtin.copy_ #[dT, sT] ty #[.slice (some ⟨g, o, none⟩) dLen dCap, .slice (some a) sLen sCap]).run P w =
      .ok (goInt n) (w.setRow g (cur.toList.take o ++ cs ++ cur.toList.drop (o + cs.length)).toArray) := by
  have hl := run_loadCells_list (P := P) w a cs hsrc
  have hst := run_storeCells_at P g o t cs 0 cur w hg (by simpa using hfit) h1
  cases hq : P.info? elem with
  | none => simp [hq] at hs
  | some i =>
    have hi : i.size = k := by simpa [hq] using hs
    rw [hcs] at hl
    simp [Builtin.copy_, run_underlying hu, Builtin.lenOf, Builtin.firstCells, sizeOf, typeInfo, hq, hi, ← hn, hl, hst]
theorem run_copyL_none {P : Program} (w : World) (dT sT ty elem : TypeId) (k : Nat) (d a : Option Addr) (dLen dCap sLen sCap : Nat) (hu : P.underlying dT = some (.slice elem)) (hs : (P.info? elem).map (·.size) = some k) (hn : Nat.min sLen dLen = 0) :
    (Builtin.copy_ #[dT, sT] ty #[.slice d dLen dCap, .slice a sLen sCap]).run P w = .ok (goInt 0) w := by
  cases hq : P.info? elem with
  | none => simp [hq] at hs
  | some i =>
    have hl : ∀ (x : Addr), (loadCells x 0).run P w = .ok #[] w := fun x => by simpa using run_loadCells_list (P := P) w x [] (by simp)
    cases d <;> cases a <;> simp [Builtin.copy_, run_underlying hu, Builtin.lenOf, Builtin.firstCells, sizeOf, typeInfo, hq, hn, storeCells, hl]
theorem flatK_app (a b : List Lk) : flatK (a ++ b) = flatK a ++ flatK b := by simp [flatK]
theorem flatK_take : ∀ (l : List Lk) (k : Nat), (flatK l).take (k * 2) = flatK (l.take k)
  | [], k => by simp [flatK]
  | y :: l, 0 => by simp [flatK]
  | y :: l, k + 1 => by
    have := flatK_take l k
    show List.take ((k + 1) * 2) (.int .i64 y.left :: .int .i64 y.right :: flatK l) = .int .i64 y.left :: .int .i64 y.right :: flatK (l.take k)
    rw [show (k + 1) * 2 = k * 2 + 1 + 1 by omega, List.take_succ_cons, List.take_succ_cons, this]
theorem flatK_drop : ∀ (l : List Lk) (k : Nat), (flatK l).drop (k * 2) = flatK (l.drop k)
  | [], k => by simp [flatK]
  | y :: l, 0 => by simp [flatK]
  | y :: l, k + 1 => by
    have := flatK_drop l k
    show List.drop ((k + 1) * 2) (.int .i64 y.left :: .int .i64 y.right :: flatK l) = flatK (l.drop k)
    rw [show (k + 1) * 2 = k * 2 + 1 + 1 by omega, List.drop_succ_cons, List.drop_succ_cons, this]
theorem grownBy_setRow (w : World) (g : Nat) (cs : Array Value) : w.grownBy (w.setRow g cs) (some g) := ⟨rfl, rfl, rfl, by simp [World.setRow], fun i hi hne => setRow_other w g i _ (fun e => hne (by rw [e]))⟩
set_option maxRecDepth 100000 in
/-- copy of links into a new row of zero links. -/
theorem copy_links (w : World) (X n : Nat) (A' : Option Addr) (ls : List Lk) (c' B : Nat) (hX : Has w X 53 (flatK (List.replicate n zK)).toArray) (hl : Lks w B A' ls) (ty : TypeId) :
    ∃ w', (Builtin.copy_ #[54, 54] ty #[.slice (some ⟨X, 0, none⟩) n n, .slice A' ls.length c']).run Tryz.prog w = .ok (goInt (Nat.min ls.length n)) w' ∧ Has w' X 53 (flatK (padK ls n)).toArray ∧ w.grownBy w' (some X) := by
  have hsz : (Tryz.prog.info? 53).map (·.size) = some 2 := by
    obtain ⟨i, h1, _, h3, _⟩ := infoK_parts
    rw [h1]
    simp [h3]
  by_cases h0 : Nat.min ls.length n = 0
  · refine ⟨w, ?_, ?_, grownBy_refl _ _⟩
    · rw [h0]
      exact run_copyL_none w _ _ ty 53 2 _ _ _ _ _ _ Tryz.underlying54 hsz h0
    · have : padK ls n = List.replicate n zK := by
        unfold padK
        have h1 : min ls.length n = 0 := h0
        rcases Nat.eq_zero_or_pos n with e | e
        · subst e; simp
        · have : ls = [] := List.eq_nil_of_length_eq_zero (by omega)
          subst this
          simp
      rw [this]
      exact hX
  · have h1 : min ls.length n ≠ 0 := h0
    have hne : ls ≠ [] := by rintro rfl; simp at h1
    obtain ⟨b, o, rfl, hb, hc⟩ := hl hne
    have hcs : (flatK (ls.take n)).length = Nat.min ls.length n * 2 := by rw [flatK_len, List.length_take]; show min n ls.length * 2 = min ls.length n * 2; rw [Nat.min_comm]
    have hcur : (flatK (List.replicate n zK)).toArray.size = n * 2 := by simp [flatK_len]
    have hmin : min ls.length n ≤ n := Nat.min_le_right _ _
    have hmin2 : Nat.min ls.length n = min ls.length n := rfl
    refine ⟨_, run_copyL w _ _ ty 53 2 X 0 n n ⟨b, o, none⟩ ls.length c' _ 53 (Nat.min ls.length n) (flatK (ls.take n)) Tryz.underlying54 hsz hX rfl hcs (fun j v hj => ?_) (by rw [hcur, hcs, hmin2]; omega) (fun v hv => ?_), ?_, grownBy_setRow _ _ _⟩
    · have hj2 : j < (flatK (ls.take n)).length := (List.getElem?_eq_some_iff.1 hj).1
      rw [flatK_len] at hj2
      obtain ⟨t, ht⟩ : ∃ t, j = t * 2 ∨ j = t * 2 + 1 := ⟨j / 2, by omega⟩
      have hjl : t < (ls.take n).length := by omega
      have hjl2 : t < ls.length := by rw [List.length_take] at hjl; omega
      have e := flatK_at (ls.take n) t hjl
      have ec := hc t hjl2
      rw [add_at]
      rcases ht with rfl | rfl
      · rw [e.1, List.getElem_take] at hj
        injection hj with hj
        subst hj
        exact ec.1
      · rw [e.2, List.getElem_take] at hj
        injection hj with hj
        subst hj
        rw [← Nat.add_assoc]
        exact ec.2
    · unfold flatK at hv
      obtain ⟨y, _, hy⟩ := List.mem_flatMap.1 hv
      simp at hy
      rcases hy with rfl | rfl <;> rfl
    · have := setRow_heap w X (flatK (List.replicate n zK)).toArray (((flatK (List.replicate n zK)).toArray.toList.take 0 ++ flatK (ls.take n) ++ (flatK (List.replicate n zK)).toArray.toList.drop (0 + (flatK (ls.take n)).length)).toArray) 53 _ hX
      have e : ((flatK (List.replicate n zK)).toArray.toList.take 0 ++ flatK (ls.take n) ++ (flatK (List.replicate n zK)).toArray.toList.drop (0 + (flatK (ls.take n)).length)) = flatK (padK ls n) := by
        rw [List.take_zero, List.nil_append, Nat.zero_add, hcs, hmin2, flatK_drop, ← flatK_app]
        unfold padK
        congr 2
        rw [List.drop_replicate]
        congr 1
        omega
      rw [e] at this
      unfold Has
      rw [e]
      exact this
set_option maxRecDepth 100000 in
theorem wpList_copyL (w : World) {ops : Array Oper} {rest : List Oper} {o : Oper} {a : Act} {Q : Exit → Act → World → Prop} (hgd : o.guard = none) (d s : Operand)
    (ho : o.op = .call { callee := .builtin .copy, args := #[d, s], argTypes := #[54, 54] }) (X n : Nat) (A' : Option Addr) (ls : List Lk) (m c' B : Nat) (hd : a.eval d = .slice (some ⟨X, 0, none⟩) n n) (hs : a.eval s = .slice A' m c') (hm : m = ls.length)
    (hX : Has w X 53 (flatK (List.replicate n zK)).toArray) (hl : Lks w B A' ls)
    (h : ∀ w', Has w' X 53 (flatK (padK ls n)).toArray → w.grownBy w' (some X) → wpList Tryz.prog ops Q rest (a.put o.dst (goInt (Nat.min m n))) w') : wpList Tryz.prog ops Q (o :: rest) a w := by
  subst hm
  refine wpList_plain hgd fun K hK => ?_
  obtain ⟨w', hr, h2, h3⟩ := copy_links w X n A' ls c' B hX hl o.type
  unfold Oper.wp execOp
  simp only [ho, resolve, invoke, builtin, Sem.run_bind, Sem.run_pure, Result.andThen_ok, List.map_toArray, List.map_cons, List.map_nil, hs, hd, hr]
  exact hK _ _ (h w' h2 h3)
def nrmR (l : List Nd) (k : List Ld) (h : Int) : List Ld := if chkV l = 0 ∧ lvB h = true then nrmV l k (h + 1).toNat else []
def NrmP (R : List Ld) (w : World) (e : Ending) (w' : World) : Prop := ∃ v, e = .returned v ∧ OwnD w' w.heap.size v R ∧ Below w.heap.size w w'
theorem nrm_len (l : List Nd) (k : List Ld) (n : Nat) : (nrmV l k n).length = (srt l).length := by simp [nrmV]
theorem nrm_at {l : List Nd} {k : List Ld} {n i : Nat} (h : i < (srt l).length) : (nrmV l k n)[i]? = some ⟨(srt l)[i].id, padK (levV k (srt l)[i].id) n⟩ := by
  unfold nrmV
  rw [List.getElem?_map, List.getElem?_eq_getElem h, Option.map_some, pad_lev]
theorem OwnD.low_ {w : World} {base b : Nat} {v : Value} {ls : List Ld} (h : OwnD w base v ls) (hb : b ≤ base) : OwnD w b v ls := by
  obtain ⟨q, h1, h2, h3, h4⟩ := h
  refine ⟨q, ?_, h2, fun i a c => ⟨(h3 i a c).1, own_lessK (h3 i a c).2.1 hb, (h3 i a c).2.2⟩, h4⟩
  obtain ⟨k1, k2 | ⟨g, cap, cur, k3, k4, k5⟩⟩ := h1
  · exact ⟨k1, .inl k2⟩
  · exact ⟨k1, .inr ⟨g, cap, cur, k3, by omega, k5⟩⟩
set_option maxRecDepth 100000 in
set_option maxHeartbeats 1600000 in
theorem normal_ok (A A2 : Option Addr) (l : List Nd) (k : List Ld) (c c2 m : Nat) (w : World) (hl : Nds w w.heap.size A l) (hk : Lds w w.heap.size A2 k) (hI : ∀ x ∈ k, -9223372036854775808 ≤ x.id ∧ x.id ≤ 9223372036854775807) (hkn : k.length ≤ maxLen) (hchk : chkV l = 0) (hm : m ≤ 16) :
    Calls Tryz.prog 31 #[.slice A l.length c, .slice A2 k.length c2, .int .i64 (m : Int)] w (NrmP (nrmV l k (m + 1)) w) := by
  have HC := Lib.hid ((check_any A l c w hl (fun x hx => (wide_of hchk x hx).2)).mono fun e w' h => (⟨by rw [h.1, hchk], h.2⟩ : e = .returned (.int .i64 0) ∧ Below w.heap.size w w'))
  have HI := Lib.hid (fun (W : World) => (show Calls Tryz.prog 58 #[.int .i64 (m : Int)] W (fun e w' => e = .returned (.bool true) ∧ W = w') from by
    have t0 : (0 : Int) ≤ (m : Int) := by omega
    have t1 : (m : Int) ≤ 16 := by omega
    go_enter Tryz.func58, Tryz.ntmps58
    go_wp2_with fail
    go_ret
    exact ⟨rfl, rfl⟩))
  have HS := Lib.hid (fun (W : World) (k : Below w.heap.size w W) => sortR_any A l c W ((hl.below k).more k.size) hchk)
  obtain ⟨q, hq⟩ := LdsV.of hk
  have HLN := Lib.hid (fun (W : World) (j : Below w.heap.size w W) => linksByNumber_any A2 k q c2 W (show LdsV W W.heap.size A2 k q from by
    obtain ⟨h1, h2⟩ := hq
    refine ⟨h1, fun i hi hqi => ?_⟩
    obtain ⟨b, o, e, hb, f1, f2, A', c', f3, f4, f5, f6⟩ := h2 i hi hqi
    exact ⟨b, o, e, Nat.lt_of_lt_of_le hb j.size, (j.cell (p := ⟨b, o + i * 2, none⟩) hb).trans f1, (j.cell (p := ⟨b, o + i * 2 + 1, none⟩) hb).trans f2, A', c', f3, f4, f5, (f6.below j).more j.size⟩) hI hkn)
  have HFV := Lib.hid (fun (i : Int) => fstF_val hq i)
  have HAT := Lib.hid (fun (i : Nat) (h : i < (srt l).length) => nrm_at (l := l) (k := k) (n := m + 1) h)
  have HRL : Hid ((nrmV l k (m + 1)).length = (srt l).length) := Lib.hid (nrm_len l k (m + 1))
  have HW := Lib.hid (wide_srt hchk)
  have hsl := srt_le hchk
  generalize nrmV l k (m + 1) = R at *
  generalize srt l = S at *
  generalize fstF k q = F at *
  clear hl hchk hq hk hI hkn
  obtain ⟨inp, hip, hip1, hip2, hip3⟩ := infoP_parts
  have hmk := fun W => make_links W (m + 1) (by omega)
  rw [show ((m + 1 : Nat) : Int) = (m : Int) + 1 by omega] at hmk
  obtain ⟨NN, hNN⟩ : ∃ NN, NN = k.length := ⟨_, rfl⟩
  rw [← hNN] at HLN ⊢
  clear hNN
  go_enter Tryz.func31, Tryz.ntmps31
  go_wp2_with fail
  refine (HC.out).mono ?_
  rintro e w1 ⟨rfl, hb1⟩
  have HB1 := Lib.hid hb1
  clear hb1 HC
  go_wp2_with fail
  refine (HI.out _).mono ?_
  rintro e w2 ⟨rfl, rfl⟩
  go_wp2_with fail
  refine (HLN.out _ HB1.out).mono ?_
  rintro e w2 ⟨bm, nm, rfl, hM, hb2⟩
  have HM2 := Lib.hid hM
  have HB2 := Lib.hid (HB1.out.trans (hb2.mono HB1.out.size))
  clear hb2 HLN HB1 hM
  go_wp2_with fail
  refine (HS.out _ HB2.out).mono ?_
  rintro e w3 ⟨A3, c3, rfl, ho3, hb3⟩
  obtain ⟨_, _, er, hr3⟩ := ho3.read
  injection er with e1 _ e2
  subst e1 e2
  have HM3 := Lib.hid (HM2.out.below hb3)
  have HB3 := Lib.hid (HB2.out.trans (hb3.mono HB2.out.size))
  clear hb3 HS HB2 ho3 HM2
  obtain ⟨n, hn⟩ : ∃ n, n = S.length := ⟨_, rfl⟩
  have HN := Lib.hid hn
  rw [← hn] at hsl HRL ⊢
  clear hn
  have hmz : (m : Int) ≤ 16 := by omega
  have hmy : (0 : Int) ≤ (m : Int) := by omega
  go_wp2_with fail
  go_loopw [8, 25] (fun vo vi wr => ∃ (v1 : Value) (i : Nat) (l1 : List Ld), v1 = vo ∧ vi = .int .i64 (i : Int) ∧ i ≤ n ∧ OwnD wr w3.heap.size v1 l1 ∧ Below w3.heap.size w3 wr ∧ Hid (l1 = R.take i) ∧ l1.length ≤ i) (fun _ vi _ => n - (intOf vi).toNat)
  case atStart => exact ⟨_, 0, [], rfl, rfl, by omega, OwnD.nil _ _, Below.refl _ _, Lib.hid (by simp), by simp⟩
  case round =>
    obtain ⟨v1, i, l1, rfl, rfl, hi, ho1, hB, HL, hlen⟩ := hrel
    by_cases hlt : i < n
    · have i2 : i < S.length := by rw [← HN.out]; exact hlt
      obtain ⟨b, o, hA2, hb, f1, f2, f3⟩ := hr3.at_ i2
      subst hA2
      have hyw : -9223372036854775808 ≤ S[i].id ∧ S[i].id ≤ 9223372036854775807 := (HW.out _ (List.getElem_mem i2)).1
      have HTK : Hid (R.take (i + 1) = R.take i ++ [⟨S[i].id, padK (levV k S[i].id) (m + 1)⟩]) := Lib.hid (by
        rw [List.take_add_one, HAT.out i i2]
        rfl)
      generalize S[i] = y at *
      obtain ⟨yi, yk, yw⟩ := y
      replace f1 := (hB.cell (p := ⟨b, o + i * 3, none⟩) hb).trans f1
      replace f2 := (hB.cell (p := ⟨b, o + i * 3 + 1, none⟩) hb).trans f2
      replace f3 := (hB.cell (p := ⟨b, o + i * 3 + 2, none⟩) hb).trans f3
      have i0 : (0 : Int) ≤ (i : Int) := by omega
      have i1 : (i : Int) < (n : Int) := by omega
      simp only at hyw HTK
      have hX := Has.new wr 25 #[.int .i64 yi, .string yk, .int .u32 (yw : Int)]
      have x0 := hX.cell 0
      have hbX := (Below.refl wr.heap.size wr).alloc (Nat.le_refl _) (.cells #[.int .i64 yi, .string yk, .int .u32 (yw : Int)] 25)
      have HHX := Lib.hid hX
      have HBX := Lib.hid hbX
      have HO1 := Lib.hid ho1
      have HBQ := Lib.hid hB
      obtain ⟨A5, c5, hv5⟩ := ho1.shape
      subst hv5
      clear hX hbX ho1 hB x0
      go_upto_region 8 with fail
      generalize wr.alloc (.cells #[.int .i64 yi, .string yk, .int .u32 (yw : Int)] 25) = WA at *
      have hbY := (Below.refl WA.heap.size WA).alloc (Nat.le_refl _) (.cells (flatK (List.replicate (m + 1) zK)).toArray 53)
      have HHY := Lib.hid (Has.new WA 53 (flatK (List.replicate (m + 1) zK)).toArray)
      have HBY := Lib.hid (HBX.out.trans (hbY.mono HBX.out.size))
      have x0 := (HHX.out.below hbY).cell 0
      have HHZ := Lib.hid (HHX.out.below hbY)
      have HMY := Lib.hid ((HM3.out.below HBQ.out).below HBY.out)
      obtain ⟨A6, c6, hfv, _, _, hls⟩ := HFV.out yi
      have hlk := HMY.out.look Tryz.underlying68 (zeroLks _) hyw.1 hyw.2
      rw [hfv] at hlk
      have HLS : Hid (Lks (WA.alloc (.cells (flatK (List.replicate (m + 1) zK)).toArray 53)) w.heap.size A6 (levV k yi)) := Lib.hid ((hls.below (HB3.out.trans (HBQ.out.mono HB3.out.size))).below (HBY.out.mono (by have := HB3.out.size; have := HBQ.out.size; omega)))
      generalize levV k yi = lv at *
      obtain ⟨p, hp⟩ : ∃ p, p = lv.length := ⟨_, rfl⟩
      have HP := Lib.hid hp
      rw [← hp] at hlk
      have hWA := HBX.out.size
      clear hp hfv hls hbY
      go_upto_region 9 with fail
      generalize hWY : WA.alloc (.cells (flatK (List.replicate (m + 1) zK)).toArray 53) = WY at *
      clear hWY
      obtain ⟨w5, hrun, hX5, hg5⟩ := copy_links WY WA.heap.size (m + 1) A6 lv c6 w.heap.size HHY.out HLS.out 3
      rw [← HP.out] at hrun
      have x05 := (World.cell?_of_block (a := ⟨wr.heap.size, 0, none⟩) (hg5.block wr.heap.size HHZ.out.lt (fun e => by have := HHX.out.lt; have := Option.some.inj e; omega))).trans (HHZ.out.cell 0)
      have HX5 := Lib.hid hX5
      have HB5 := Lib.hid (HBY.out.grown hg5 HBY.out.size (fun j e => by have := Option.some.inj e; omega))
      clear hX5 hg5
      go_upto_region 10 with fail
      have hu5 := full_ownK HX5.out hWA (padK_len lv (m + 1)) (by unfold maxLen; omega)
      have hl1 : l1.length < 1000000 := by omega
      have hBq2 := HBQ.out.size
      go_wp2_with (at_builtin; refine wpList_pushD rfl _ _ 31 rfl w3.heap.size inp Tryz.underlying31 hip hip1 hip2 hip3 (.slice A5 l1.length c5) l1 wr w5 yi (.slice (some ⟨WA.heap.size, 0, none⟩) (m + 1) (m + 1)) (padK lv (m + 1)) HO1.out HB5.out hu5 hBq2 rfl rfl hl1 ?_; intro v9 w9 ho9 hb9; obtain ⟨lw, hlw⟩ : ∃ lw, lw = l1 ++ [(⟨yi, padK lv (m + 1)⟩ : Ld)] := ⟨_, rfl⟩; rw [← hlw] at ho9; have hlwn : lw.length = l1.length + 1 := (by rw [hlw]; simp); have HLW := Lib.hid hlw; have HLN := Lib.hid hlwn; have HO9 := Lib.hid ho9; have HB9 := Lib.hid ((HBQ.out.trans (HB5.out.mono HBQ.out.size)).trans hb9); clear hlw hlwn; obtain ⟨A9, c9, hv9⟩ := ho9.shape; subst hv9; clear ho9 hb9)
      exact ⟨⟨_, i + 1, lw, rfl, by go_num, hlt, HO9.out, HB9.out, Lib.hid (by rw [HLW.out, HL.out, HTK.out]), by have := HLN.out; omega⟩, by simp [intOf]; omega⟩
    · have HLE : Hid (l1 = R) := Lib.hid (by rw [HL.out, List.take_of_length_le (by have := HRL.out; omega)])
      have HO := Lib.hid (ho1.low_ (show w.heap.size ≤ w3.heap.size from HB3.out.size))
      have HBF := Lib.hid (HB3.out.trans (hB.mono HB3.out.size))
      obtain ⟨A5, c5, hv5⟩ := ho1.shape
      subst hv5
      clear ho1 hB
      go_wp2_with fail
      go_ret
      rw [← HLE.out]
      exact ⟨_, rfl, HO.out, HBF.out⟩
theorem isLevelI_any (h : Int) (w : World) : Calls Tryz.prog 58 #[.int .i64 h] w fun e w' => e = .returned (.bool (lvB h)) ∧ w = w' := by
  have HL : Hid (lvB h = (decide (0 ≤ h) && decide (h ≤ 16))) := Lib.hid rfl
  generalize lvB h = Z at *
  by_cases h1 : 0 ≤ h
  · by_cases h2 : h ≤ 16
    · have HZ : Hid (Z = true) := Lib.hid (by rw [HL.out]; simp [h1, h2])
      go_enter Tryz.func58, Tryz.ntmps58
      go_wp2_with fail
      go_ret
      exact ⟨ret_bool HZ.out.symm, rfl⟩
    · have HZ : Hid (Z = false) := Lib.hid (by rw [HL.out]; simp [h2])
      go_enter Tryz.func58, Tryz.ntmps58
      go_wp2_with fail
      go_ret
      exact ⟨ret_bool HZ.out.symm, rfl⟩
  · have HZ : Hid (Z = false) := Lib.hid (by rw [HL.out]; simp [h1])
    go_enter Tryz.func58, Tryz.ntmps58
    go_wp2_with fail
    go_ret
    exact ⟨ret_bool HZ.out.symm, rfl⟩
set_option maxRecDepth 100000 in
set_option maxHeartbeats 800000 in
theorem normal_any (A A2 : Option Addr) (l : List Nd) (k : List Ld) (c c2 : Nat) (h : Int) (w : World) (hl : Nds w w.heap.size A l) (hk : Lds w w.heap.size A2 k) (hI : ∀ x ∈ k, -9223372036854775808 ≤ x.id ∧ x.id ≤ 9223372036854775807) (hkn : k.length ≤ maxLen) (hwd : ∀ x ∈ l, x.word < 4294967296) :
    Calls Tryz.prog 31 #[.slice A l.length c, .slice A2 k.length c2, .int .i64 h] w (NrmP (nrmR l k h) w) := by
  by_cases hchk : chkV l = 0
  · by_cases hlv : lvB h = true
    · have h2 : 0 ≤ h ∧ h ≤ 16 := by simpa [lvB] using hlv
      obtain ⟨m, rfl⟩ := Int.eq_ofNat_of_zero_le h2.1
      have e : nrmR l k (m : Int) = nrmV l k (m + 1) := by unfold nrmR; rw [if_pos ⟨hchk, hlv⟩, show ((m : Int) + 1).toNat = m + 1 by omega]
      rw [e]
      exact normal_ok A A2 l k c c2 m w hl hk hI hkn hchk (by omega)
    · have hlz : lvB h = false := by simpa using hlv
      have hE : nrmR l k h = [] := by unfold nrmR; rw [if_neg (fun q => hlv q.2)]
      have HC := Lib.hid ((check_any A l c w hl hwd).mono fun e w' h => (⟨by rw [h.1, hchk], h.2⟩ : e = .returned (.int .i64 0) ∧ Below w.heap.size w w'))
      have HI := Lib.hid (fun (W : World) => isLevelI_any h W)
      rw [hlz] at HI
      rw [hE]
      clear hl hwd hchk hlv hlz hE hI hk hkn
      go_enter Tryz.func31, Tryz.ntmps31
      go_wp2_with fail
      refine (HC.out).mono ?_
      rintro e w1 ⟨rfl, hb1⟩
      go_wp2_with fail
      refine (HI.out _).mono ?_
      rintro e w2 ⟨rfl, rfl⟩
      go_wp2_with fail
      go_ret
      exact ⟨_, rfl, OwnD.nil _ _, hb1⟩
  · have hE : nrmR l k h = [] := by unfold nrmR; rw [if_neg (fun q => hchk q.1)]
    have HC := Lib.hid (check_any A l c w hl hwd)
    have hz : (chkV l != 0) = true := by simpa using hchk
    rw [hE]
    generalize chkV l = Z at *
    clear hl hwd hchk hE hI hk hkn
    go_enter Tryz.func31, Tryz.ntmps31
    go_wp2_with fail
    refine (HC.out).mono ?_
    rintro e w1 ⟨rfl, hb1⟩
    go_wp2_with fail
    go_ret
    exact ⟨_, rfl, OwnD.nil _ _, hb1⟩
end
end Go.Proofs.YtjokbdhineilcaaGreatDoor
