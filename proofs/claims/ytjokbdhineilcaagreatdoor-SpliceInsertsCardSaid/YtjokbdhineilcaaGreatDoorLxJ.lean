/-
  Insert of package splice. Conditions: the nodes and links can be read; the new node's number and word are in bounds.
  Remove of package splice. Conditions: the nodes and links can be read; the number is in bounds.
  The example of chapter 10: two nodes, one joins and leaves. No condition.
-/
import Derived.Test.YtjokbdhineilcaaGreatDoorLxH
import Derived.Test.YtjokbdhineilcaaGreatDoorLuH
import Derived.Test.YtjokbdhineilcaaGreatDoorLvC
import Derived.Test.YtjokbdhineilcaaGreatDoorLpC
import Derived.Deep.DeepCutAuto
import Derived.Deep.CutBlock
import Derived.Deep.RegionHeld3
import Derived.BigRegion
import Derived.Test.YtjokbdhineilcaaGreatDoorLxA
import Derived.BigQuiet
namespace Go.Proofs.YtjokbdhineilcaaGreatDoor
section
open Go.RowKit Go.Maps

theorem rteR_len10 (l : List Nd) (k : List Ld) (id : Int) (q : ByteArray) : (rteR l k id q).length ≤ l.length + 1 := by
  unfold rteR
  split
  · unfold rteW
    have h1 := rt_len (l := l) (k := k) (q := q) (r := !kl q (fndV l id).key) (fndV l id) 17
    have h2 := ds_le (!kl q (fndV l id).key) l (fndV l id)
    have h3 : ∀ z, (lstO l k q (!kl q (fndV l id).key) z).length ≤ 1 := fun z => by unfold lstO; split <;> simp
    have h4 := h3 (rtW l k q (!kl q (fndV l id).key) (fndV l id) 17).2
    rw [List.length_append]
    omega
  · simp
/-- What route of package splice answers: without nodes no hops and no error. -/
def sroE (l : List Nd) (id : Int) (q : ByteArray) : Int := if l = [] then 0 else rteE l id q
set_option maxRecDepth 100000 in
set_option maxHeartbeats 800000 in
theorem sroute_any (A A2 : Option Addr) (l : List Nd) (k : List Ld) (c c2 : Nat) (id : Int) (q : ByteArray) (w : World) (hl : Nds w w.heap.size A l) (hk : Lds w w.heap.size A2 k) (hI : ∀ x ∈ k, -9223372036854775808 ≤ x.id ∧ x.id ≤ 9223372036854775807) (hkn : k.length ≤ maxLen) (hwd : ∀ x ∈ l, x.word < 4294967296)
    (hid : I64 id) (hw : ∀ (i : Int) (t : Nat), I64 (atV k i (t : Int)).left ∧ I64 (atV k i (t : Int)).right) :
    Calls Tryz.prog 30 #[.slice A l.length c, .slice A2 k.length c2, .int .i64 id, .string q] w (RteP (sroE l id q) (rteR l k id q) w) := by
  by_cases h0 : l = []
  · subst h0
    have HR : Hid (rteR [] k id q = []) := Lib.hid (rteR_nil k id q)
    have HE : Hid (sroE [] id q = 0) := Lib.hid (if_pos rfl)
    rw [HR.out, HE.out]
    generalize k.length = kn at *
    clear hl hk hI hkn hwd hid hw
    show Calls Tryz.prog 30 #[.slice A 0 c, .slice A2 kn c2, .int .i64 id, .string q] w (RteP 0 [] w)
    go_enter Tryz.func30, Tryz.ntmps30
    go_wp2_with fail
    go_ret2
    exact ⟨_, rfl, OwnH.nil _ _, Below.refl _ _⟩
  · have HR := Lib.hid (routeK_any A A2 l k c c2 id q w hl hk hI hkn hwd hid hw)
    have HE : Hid (sroE l id q = rteE l id q) := Lib.hid (if_neg h0)
    rw [HE.out]
    have hn : ((l.length : Int) == 0) = false := by
      have : l.length ≠ 0 := fun e => h0 (List.eq_nil_of_length_eq_zero e)
      simp; exact h0
    have hn2 : ¬ ((l.length : Int) = 0) := by
      have : l.length ≠ 0 := fun e => h0 (List.eq_nil_of_length_eq_zero e)
      omega
    generalize rteR l k id q = R at *
    generalize rteE l id q = E at *
    generalize k.length = kn at *
    generalize l.length = ln at *
    clear hl hk hI hkn hwd hid hw h0 HE
    go_enter Tryz.func30, Tryz.ntmps30
    go_wp2_with fail
    refine (HR.out).mono ?_
    rintro e w1 ⟨v1, rfl, ho, hb⟩
    have HO := Lib.hid ho
    have HB := Lib.hid hb
    clear ho hb HR
    go_wp2_with fail
    go_ret2
    exact ⟨_, rfl, HO.out, HB.out⟩
theorem one_nd {W : World} {Y : Nat} {x : Nd} (h : Has W Y 25 #[.int .i64 x.id, .string x.key, .int .u32 (x.word : Int)]) : Nds W W.heap.size (some ⟨Y, 0, none⟩) [x] := fun _ => by
  refine ⟨_, 0, rfl, h.lt, fun i hi => ?_⟩
  have h2 : i = 0 := by simp at hi; omega
  subst h2
  exact ⟨h.cell 0, h.cell 1, h.cell 2⟩
theorem Hps.more9 {w : World} {B B' : Nat} {A : Option Addr} {l : List Hp} (h : Hps w B A l) (hB : B ≤ B') : Hps w B' A l := fun hn => by
  obtain ⟨b, o, e, hb, hc⟩ := h hn
  exact ⟨b, o, e, by omega, hc⟩
def InsOk (R : List Ld) (n : Nat) (w : World) (e : Ending) (w' : World) : Prop := ∃ v, e = .returned (.tuple #[v, .int .i64 (n : Int), .int .i64 0]) ∧ OwnD w' w.heap.size v R ∧ Below w.heap.size w w'
theorem one_alone {x : Nd} (hc : chkV [x] = 0) {t : Nat} (ht : t ≤ 16) : nbF [x] x.id t = ⟨0, 0⟩ := by
  have hS : srt [x] = [] ++ x :: [] := (srt_of ⟨List.Perm.refl _, by simp⟩ (chkV_zero.1 hc).2.2).symm
  rw [nb_split hc hS ht]
  rfl
theorem below_both {a : World} {o1 o2 : Obj} : Below a.heap.size a ((a.alloc o1).alloc o2) := ((Below.refl a.heap.size a).alloc (Nat.le_refl _) o1).alloc (by rw [World.size_alloc]; omega) o2
set_option maxRecDepth 100000 in
set_option maxHeartbeats 3200000 in
theorem insert_ok (A A2 : Option Addr) (l : List Nd) (k : List Ld) (x : Nd) (c c2 : Nat) (id : Int) (m : Nat) (w : World) (hl : Nds w w.heap.size A l) (hk : Lds w w.heap.size A2 k) (hid : I64 id) (hex : exaB l k (m : Int) = true) (hc : chkV (l ++ [x]) = 0) (hm : m ≤ 16) (hi : l = [] ∨ plc l id < l.length) :
    Calls Tryz.prog 13 #[.slice A l.length c, .slice A2 k.length c2, x.val, .int .i64 id, .int .i64 (m : Int)] w (InsOk (bldV (l ++ [x]) (m + 1)) ((rteR l k id x.key).length + sumR (vsV (l ++ [x]) x) m) w) := by
  obtain ⟨hl0, ek⟩ := exa_is hex
  have hln : l.length + 1 ≤ 64 := by have := (chkV_zero.1 hc).1; rw [List.length_append] at this; simpa using this
  have hkl : k.length = l.length := by rw [ek, bld_len]
  have hlw := wide_of hl0
  have haw := wide_of hc
  have hwx : x.wide := haw x (by simp)
  have hkI : ∀ y ∈ k, -9223372036854775808 ≤ y.id ∧ y.id ≤ 9223372036854775807 := fun y hy => (bldV_wide hlw (m + 1) y (ek ▸ hy)).1
  have hkw : ∀ (i : Int) (t : Nat), I64 (atV k i (t : Int)).left ∧ I64 (atV k i (t : Int)).right := fun i t => atV_wide (k := k) (fun y hy z hz => (bldV_wide hlw (m + 1) y (ek ▸ hy)).2.2 z hz) i (t : Int)
  have HI := Lib.hid (fun (W : World) => (isLevelP_any (m : Int) W).mono fun e w' h => (⟨by rw [h.1]; simp [lvB]; omega, h.2⟩ : e = .returned (.bool true) ∧ W = w'))
  have HE := Lib.hid (fun (W : World) (j : Below w.heap.size w W) => (exact_any A A2 l k c c2 (m : Int) W ((hl.below j).more j.size) ((hk.below j).more j.size) (by unfold maxLen; omega) (fun y hy => (hlw y hy).2)).mono fun e w' h => (⟨by rw [h.1, hex], h.2⟩ : e = .returned (.bool true) ∧ Below W.heap.size W w'))
  have HC1 := Lib.hid (fun (W : World) (j : Below w.heap.size w W) (X : Nat) (Y : Nat) (h0 : W.cell? ⟨X, 0, none⟩ = some (.slice A l.length c)) (h1 : W.cell? ⟨X, 1, none⟩ = some (.slice (some ⟨Y, 0, none⟩) 1 1)) (hX : X < W.heap.size) (hY : Nds W W.heap.size (some ⟨Y, 0, none⟩) [x]) => concatN_any X A (some ⟨Y, 0, none⟩) l [x] c 1 W h0 h1 hX ((hl.below j).more j.size) hY (by omega) (by simp))
  have HCK := Lib.hid (fun (W : World) (A : Option Addr) (c : Nat) (h : Nds W W.heap.size A (l ++ [x])) => (check_any A (l ++ [x]) c W h (fun y hy => (haw y hy).2)).mono fun e w' k => (⟨by rw [k.1, hc], k.2⟩ : e = .returned (.int .i64 0) ∧ Below W.heap.size W w'))
  have hsr : sroE l id x.key = 0 := by
    unfold sroE
    by_cases h : l = []
    · rw [if_pos h]
    · rw [if_neg h]
      have hvk : vk x.key = true := by have := List.all_eq_true.1 (chkV_zero.1 hc).2.1 x (by simp); simp [Nd.ok] at this; exact this.1.2
      unfold rteE
      rw [if_pos ⟨hl0, hvk⟩, if_pos (hi.resolve_left h)]
  have HRT := Lib.hid (fun (W : World) (j : Below w.heap.size w W) => sroute_any A A2 l k c c2 id x.key W ((hl.below j).more j.size) ((hk.below j).more j.size) hkI (by unfold maxLen; omega) (fun y hy => (hlw y hy).2) hid hkw)
  rw [hsr] at HRT
  have HNM := Lib.hid (fun (W : World) (j : Below w.heap.size w W) (A' : Option Addr) (c' : Nat) (h : Nds W W.heap.size A' (l ++ [x])) => normal_ok A' A2 (l ++ [x]) k c' c2 m W h ((hk.below j).more j.size) hkI (by unfold maxLen; omega) hc hm)
  have hnr : nrmV (l ++ [x]) k (m + 1) = lsF (idsX (l ++ [x])) (m + 1) (nbF l) := by rw [ek]; exact nrm_old hl0 (by omega)
  rw [hnr] at HNM
  have hII : ∀ i ∈ idsX (l ++ [x]), I64 i := fun i hi => by
    obtain ⟨y, hy, rfl⟩ := idsX_mem.1 hi
    exact (haw y hy).1
  have hnd := idsX_nodup hc
  have h0i := idsX_zero hc
  have HNW := Lib.hid (fun (W : World) (A' : Option Addr) (c' base : Nat) (v : Value) (h : Nds W W.heap.size A' (l ++ [x])) (hv : OwnD W base v (lsF (idsX (l ++ [x])) (m + 1) (nbF l))) => networkOf_any A' (l ++ [x]) c' base v (idsX (l ++ [x])) (m + 1) (nbF l) W h haw (by rw [List.length_append]; simp; omega) hv hII (by rw [idsX_len, List.length_append]; simp; omega))
  have hxi : x.id ∈ idsX (l ++ [x]) := idsX_mem.2 ⟨x, by simp, rfl⟩
  have hsub : ∀ i, i ∈ idsX l → i ∈ idsX (l ++ [x]) := fun i hi => by
    obtain ⟨y, hy, e⟩ := idsX_mem.1 hi
    exact idsX_mem.2 ⟨y, by simp [hy], e⟩
  have HEN := Lib.hid (fun (W : World) (base tp bn bl : Nat) (v : Value) (f : Int → Nat → Lk) (t : Nat) (h : RMap W base tp bl v (idsX (l ++ [x])) (m + 1) f) (hbl : base ≤ bl) (htp : tp ≤ bl) (ht : t < m + 1) => nenter_any base tp bn bl v (idsX (l ++ [x])) (m + 1) f x (nbF (l ++ [x]) x.id t) t W h hnd h0i hII hbl htp ht hxi (nb_has hc (by simp) (by omega)).1 (nb_has hc (by simp) (by omega)).2)
  have HLV := Lib.hid (fun (t : Nat) (ht : t ≤ 16) (j : Int) (hj : j ∈ idsX (l ++ [x])) (u : Nat) => join_lev hc ht hj u)
  have hbn := beside_is (l := l) (x := x) hc
  have HBS := Lib.hid (fun (h : l ≠ []) (W : World) (base tp bn bl : Nat) (v : Value) (hr : RMap W base tp bl v (idsX (l ++ [x])) (m + 1) (nbF l)) (hN : NMap W bn (l ++ [x])) (hbl : base ≤ bl) => (by
    obtain ⟨h1, h2⟩ := hbn h
    have h3 := nbeside_any base tp bn bl v (l ++ [x]) (idsX (l ++ [x])) (m + 1) (nbF l) x (ownV (srt l) x.key) W hr hN (chkV_zero.1 hc).2.2 hnd hbl (by omega) (by simp [h1]) (hlw _ h1) (hsub _ (idsX_mem.2 ⟨_, h1, rfl⟩))
    have e1 : (if kl x.key (ownV (srt l) x.key).key = true then (0 : Int) else (ownV (srt l) x.key).id) = (nbF (l ++ [x]) x.id 0).left := by rw [h2]; split <;> rfl
    have e2 : (if kl x.key (ownV (srt l) x.key).key = true then (ownV (srt l) x.key).id else (nbF l (ownV (srt l) x.key).id 0).right) = (nbF (l ++ [x]) x.id 0).right := by rw [h2]; split <;> rfl
    rw [e1, e2] at h3
    exact h3 : Calls Tryz.prog 34 #[netV bn bl, .int .i64 (ownV (srt l) x.key).id, x.val] W (fun e w' => e = .returned (.agg #[.int .i64 (nbF (l ++ [x]) x.id 0).left, .int .i64 (nbF (l ++ [x]) x.id 0).right]) ∧ Below W.heap.size W w')))
  obtain ⟨U, V, hS, hS2⟩ := srt_join hc
  have hUl : ∀ y ∈ U.filter (smB 0 x), y ∈ l ++ [x] := fun y hy => srt_mem.1 (by rw [hS2]; simp [mflt hy])
  have hUV : U.length + V.length ≤ 1000 := by
    have := (srt_srt l).1.length_eq
    rw [hS, List.length_append] at this
    omega
  have HCL := Lib.hid (fun (t : Nat) (ht : t < m) (W : World) (base tp bn bl : Nat) (v : Value) (hr : RMap W base tp bl v (idsX (l ++ [x])) (m + 1) (upF (nbF (l ++ [x])) (nbF l) (t + 1))) (hN : NMap W bn (l ++ [x])) (hbl : base ≤ bl) => (by
    have e1 : ∀ j, upF (nbF (l ++ [x])) (nbF l) (t + 1) j t = nbF (l ++ [x]) j t := fun j => if_pos (Nat.lt_succ_self t)
    have e0 : nbF (l ++ [x]) x.id t = lnkS t U x V := nb_split hc hS2 (by omega)
    have h1 := nclimb_any base tp bn bl v (l ++ [x]) (idsX (l ++ [x])) (m + 1) (upF (nbF (l ++ [x])) (nbF l) (t + 1)) x t (U.filter (smB t x)).reverse (V.filter (smB t x)) W hr hN (chkV_zero.1 hc).2.2 haw hnd (fun y hy => idsX_mem.2 ⟨y, hy, rfl⟩) hbl (by omega) (by simp) (fun y hy => srt_mem.1 (by rw [hS2]; simp [mflt (List.mem_reverse.1 hy)])) (by rw [List.length_reverse]; have := List.length_filter_le (smB t x) U; omega)
      (by
        have := chn_left hc (x := x) (t := t) (by omega) U.length U (x :: V) rfl hS2
        rw [e1, e0]
        exact Chn10.congr (fun y _ => by rw [e1]) this)
      (fun y hy => srt_mem.1 (by rw [hS2]; simp [mflt hy])) (by have := List.length_filter_le (smB t x) V; omega)
      (by
        have := chn_right hc (x := x) (t := t) (by omega) V (U ++ [x]) (by rw [hS2]; simp)
        rw [e1, e0]
        exact Chn10.congr (fun y _ => by rw [e1]) this)
    have e2 := climb_is hc hS2 (t := t) (by omega)
    have e3 : vsV (l ++ [x]) x t = upN (bsB t x) (U.filter (smB t x)).reverse + upN (bsB t x) (V.filter (smB t x)) := vs_split hc hS2 (by omega)
    rw [← e3] at h1
    have e4 : fdI (bsB t x) (U.filter (smB t x)).reverse = (nbF (l ++ [x]) x.id (t + 1)).left := by rw [e2]
    have e5 : fdI (bsB t x) (V.filter (smB t x)) = (nbF (l ++ [x]) x.id (t + 1)).right := by rw [e2]
    rw [e4, e5] at h1
    exact h1 : Calls Tryz.prog 36 #[netV bn bl, x.val, .int .i64 (t : Int)] W (fun e w' => e = .returned (.tuple #[.agg #[.int .i64 (nbF (l ++ [x]) x.id (t + 1)).left, .int .i64 (nbF (l ++ [x]) x.id (t + 1)).right], .int .i64 ((vsV (l ++ [x]) x t : Nat) : Int)]) ∧ Below W.heap.size W w')))
  have HVS := Lib.hid (fun (t : Nat) (ht : t ≤ 16) => (by have := vs_le hc (x := x) (by simp) ht; rw [List.length_append] at this; simp at this; omega : vsV (l ++ [x]) x t ≤ 64))
  have hrl := rteR_len10 l k id x.key
  have HED : Hid (∀ (h : l ≠ []), endV id (rteR l k id x.key) = (ownV (srt l) x.key).id) := Lib.hid fun h => by
    have hp := hi.resolve_left h
    have hf := fnd_in hp
    unfold rteR
    have hE : rteE l id x.key = 0 := by
      have := hsr
      unfold sroE at this
      rwa [if_neg h] at this
    rw [if_pos hE]
    have := rte_owner (l := l) (k := k) (q := x.key) hl0 hf.1 (fun z hz => by
      rw [ek]
      exact at_bld hl0 (t := 0) (by omega) hz (by omega))
    rw [hf.2] at this
    exact this
  have HFI : Hid (lsF (idsX (l ++ [x])) (m + 1) (upF (nbF (l ++ [x])) (nbF l) (m + 1)) = bldV (l ++ [x]) (m + 1)) := Lib.hid (by
    rw [ls_bld hc (by omega)]
    exact lsF_congr fun i _ t ht => if_pos ht)
  have HF0 : Hid (l = [] → ∀ i ∈ idsX (l ++ [x]), ∀ t, t < m + 1 → nbF l i t = upF (nbF (l ++ [x])) (nbF l) 1 i t) := Lib.hid fun h i hi t ht => by
    subst h
    unfold upF
    split
    · obtain ⟨y, hy, rfl⟩ := idsX_mem.1 hi
      obtain rfl : y = x := by simpa using hy
      have h9 := one_alone (x := y) (by simpa using hc) (t := t) (by omega)
      rw [nbF_none (by simp)]
      exact h9.symm
    · rfl
  have HUZ : Hid (upF (nbF (l ++ [x])) (nbF l) 0 = nbF l) := Lib.hid (upF_zero _ _)
  have HLN : Hid (l = [] ↔ l.length = 0) := Lib.hid ⟨fun h => by rw [h]; rfl, List.eq_nil_of_length_eq_zero⟩
  have HAL : Hid ((l ++ [x]).length = l.length + 1) := Lib.hid (by simp)
  have HXN := Lib.hid (fun (W : World) (Y : Nat) (h : Has W Y 25 #[.int .i64 x.id, .string x.key, .int .u32 (x.word : Int)]) => one_nd h)
  generalize rteR l k id x.key = R at *
  generalize bldV (l ++ [x]) (m + 1) = RB at *
  generalize vsV (l ++ [x]) x = vs at *
  generalize nbF (l ++ [x]) x.id = nbx at *
  generalize nbF (l ++ [x]) = nba at *
  generalize nbF l = nbl at *
  generalize (ownV (srt l) x.key).id = oid at *
  generalize idsX (l ++ [x]) = ids at *
  generalize lsF ids (m + 1) nbl = LS0 at *
  generalize l ++ [x] = al at *
  have hENH := Lib.hid (fun (W : World) (A' : Option Addr) (c' : Nat) (h : Hps W W.heap.size A' R) => endH_any A' R c' id W h (by unfold maxLen; omega))
  obtain ⟨LN, hLN⟩ : ∃ n, n = l.length := ⟨_, rfl⟩
  obtain ⟨AN, hAN⟩ : ∃ n, n = al.length := ⟨_, rfl⟩
  obtain ⟨RN, hRN⟩ : ∃ n, n = R.length := ⟨_, rfl⟩
  rw [hkl] at HE HRT HNM
  rw [hkl, ← hRN]
  rw [← hLN] at HE HC1 HRT HNM HLN HAL hln hrl
  rw [← hLN]
  rw [← hAN] at HCK HNM HNW HAL
  rw [← hRN] at hENH hrl
  have HRN := Lib.hid hRN
  have HAN := Lib.hid hAN.symm
  have HXI := Lib.hid h0i
  have HP1 := Lib.hid (Below.refl w.heap.size w)
  obtain ⟨w1, hw1⟩ : ∃ w1, w1 = w.alloc (.cells #[.int .i64 x.id, .string x.key, .int .u32 (x.word : Int)] 25) := ⟨_, rfl⟩
  have hk1 : Below w.heap.size w w1 := by rw [hw1]; exact (Below.refl w.heap.size w).alloc (Nat.le_refl _) _
  have hX1 : Has w1 w.heap.size 25 #[.int .i64 x.id, .string x.key, .int .u32 (x.word : Int)] := by rw [hw1]; exact Has.new _ _ _
  obtain ⟨B0, hB0⟩ : ∃ B0, B0 = w.heap.size := ⟨_, rfl⟩
  rw [← hB0] at hX1
  have HB0 := Lib.hid hB0
  have HK1 := Lib.hid hk1
  have HX1 := Lib.hid hX1
  have HE1 := Lib.hid (HE.out w1 hk1)
  obtain ⟨xi, xk, xw⟩ := x
  show Calls Tryz.prog 13 #[.slice A LN c, .slice A2 LN c2, .agg #[.int .i64 xi, .string xk, .int .u32 (xw : Int)], .int .i64 id, .int .i64 (m : Int)] w _
  simp only at *
  clear hl hk hex hc hi hl0 ek hkl hlw haw hwx hkI hkw hsr hnr hII hnd h0i hxi hsub hbn hS hS2 hUl hUV hLN hAN hRN hk1 hX1 HE HP1 hid
  go_enter Tryz.func13, Tryz.ntmps13
  go_upto_region 1 with fail
  rw [← hw1, ← hB0]
  clear hw1 hB0
  go_wp2_with fail
  refine (HI.out _).mono ?_
  rintro e w2 ⟨rfl, rfl⟩
  go_wp2_with fail
  refine (HE1.out).mono ?_
  rintro e w2 ⟨rfl, hb2⟩
  have HK2 := Lib.hid (HK1.out.trans (hb2.mono HK1.out.size))
  have HX2 := Lib.hid (HX1.out.below hb2)
  have x0 := HX2.out.cell 0
  have x1 := HX2.out.cell 1
  have x2 := HX2.out.cell 2
  clear hb2 HE1 HI HK1 HX1
  go_wp2_with fail
  obtain ⟨w4, hw4⟩ : ∃ w4, w4 = w2.alloc (.cells #[.int .i64 xi, .string xk, .int .u32 (xw : Int)] 25) := ⟨_, rfl⟩
  obtain ⟨w5, hw5⟩ : ∃ w5, w5 = w4.alloc (.cells #[.slice A LN c, .slice (some ⟨w2.heap.size, 0, none⟩) 1 1] 28) := ⟨_, rfl⟩
  have s4 : w4.heap.size = w2.heap.size + 1 := by rw [hw4, World.size_alloc]
  have hk4 : Below w2.heap.size w2 w4 := by rw [hw4]; exact (Below.refl w2.heap.size w2).alloc (Nat.le_refl _) _
  have hk5 : Below w4.heap.size w4 w5 := by rw [hw5]; exact (Below.refl w4.heap.size w4).alloc (Nat.le_refl _) _
  have hX4 : Has w4 w2.heap.size 25 #[.int .i64 xi, .string xk, .int .u32 (xw : Int)] := by rw [hw4]; exact Has.new _ _ _
  have hX5 : Has w5 (w2.heap.size + 1) 28 #[.slice A LN c, .slice (some ⟨w2.heap.size, 0, none⟩) 1 1] := by rw [← s4, hw5]; exact Has.new _ _ _
  have hk25 := hk4.trans (hk5.mono (by omega))
  have HK5 := Lib.hid (HK2.out.trans (hk25.mono HK2.out.size))
  have HX5 := Lib.hid (HX2.out.below hk25)
  have HC5 := Lib.hid (HC1.out w5 HK5.out (w2.heap.size + 1) w2.heap.size (hX5.cell 0) (hX5.cell 1) hX5.lt (HXN.out w5 w2.heap.size (hX4.below hk5)))
  rw [← hw4, ← hw5]
  clear hw4 hw5 s4 hk4 hk5 hX4 hX5 hk25 HC1 HXN HX2 HK2 x0 x1 x2
  refine (HC5.out).mono ?_
  rintro e w6 ⟨A6, c6, rfl, ho6, hb6⟩
  obtain ⟨_, _, er, hnd6⟩ := ho6.read
  injection er with e1 e3 e2
  clear e3
  subst e1 e2
  rw [HAN.out]
  have HN6 := Lib.hid hnd6
  have HK6 := Lib.hid (HK5.out.trans (hb6.mono HK5.out.size))
  have HX6 := Lib.hid (HX5.out.below hb6)
  have HCK6 := Lib.hid (HCK.out w6 A6 c6 hnd6)
  clear ho6 hnd6 hb6 HC5 HK5 HX5 HCK
  go_wp2_with fail
  refine (HCK6.out).mono ?_
  rintro e w7 ⟨rfl, hb7⟩
  have HN7 := Lib.hid ((HN6.out.below hb7).more hb7.size)
  have HK7 := Lib.hid (HK6.out.trans (hb7.mono HK6.out.size))
  have HX7 := Lib.hid (HX6.out.below hb7)
  have HRT7 := Lib.hid (HRT.out w7 HK7.out)
  have x1 := HX7.out.cell 1
  clear hb7 HCK6 HK6 HX6 HN6 HRT
  go_wp2_with fail
  refine (HRT7.out).mono ?_
  rintro e w8 ⟨v8, rfl, ho8, hb8⟩
  obtain ⟨A8, c8, rfl, hps⟩ := ho8.read
  rw [← HRN.out]
  have HPS := Lib.hid hps
  have HN8 := Lib.hid ((HN7.out.below hb8).more hb8.size)
  have HK8 := Lib.hid (HK7.out.trans (hb8.mono HK7.out.size))
  have HX8 := Lib.hid (HX7.out.below hb8)
  have HNM8 := Lib.hid (HNM.out w8 HK8.out A6 c6 HN8.out)
  clear hb8 ho8 hps HRT7 HK7 HX7 HN7 HNM x1
  go_wp2_with fail
  refine (HNM8.out).mono ?_
  rintro e w9 ⟨v, rfl, ho9, hb9⟩
  have HO9 := Lib.hid ho9
  have HPS9 := Lib.hid ((HPS.out.below hb9).more9 hb9.size)
  have HN9 := Lib.hid ((HN8.out.below hb9).more hb9.size)
  have HK9 := Lib.hid (HK8.out.trans (hb9.mono HK8.out.size))
  have HX9 := Lib.hid (HX8.out.below hb9)
  have HNW9 := Lib.hid (HNW.out w9 A6 c6 w8.heap.size v HN9.out ho9)
  have HBS8 : Hid (w8.heap.size ≤ w9.heap.size ∧ w.heap.size ≤ w8.heap.size ∧ B0 < w8.heap.size) := Lib.hid ⟨hb9.size, HK8.out.size, HX8.out.lt⟩
  clear hb9 ho9 HNM8 HK8 HX8 HN8 HNW HPS
  go_wp2_with fail
  refine (HNW9.out).mono ?_
  rintro e w10 ⟨bn, bl, rfl, hbn1, hbl1, hnm, hrm, hb10⟩
  have HRM := Lib.hid hrm
  have HNMP := Lib.hid hnm
  have HPS10 := Lib.hid ((HPS9.out.below hb10).more9 hb10.size)
  have HK10 := Lib.hid (HK9.out.trans (hb10.mono HK9.out.size))
  have HX10 := Lib.hid (HX9.out.below hb10)
  have HSZ := Lib.hid hb10.size
  clear hb10 hrm hnm HNW9 HK9 HX9 HN9 HPS9 HO9
  simp only [netV] at HEN HBS HCL ⊢
  go_upto_region 14 with fail
  obtain ⟨w11, hw11⟩ : ∃ w11, w11 = w10.alloc (.cells #[.map (some bn), .map (some bl)] 70) := ⟨_, rfl⟩
  obtain ⟨XB, hXB⟩ : ∃ XB, XB = w10.heap.size := ⟨_, rfl⟩
  have hk11 : Below w10.heap.size w10 w11 := by rw [hw11]; exact (Below.refl w10.heap.size w10).alloc (Nat.le_refl _) _
  have hXB1 : Has w11 XB 70 #[.map (some bn), .map (some bl)] := by rw [hXB, hw11]; exact Has.new _ _ _
  have HXB := Lib.hid hXB1
  have HRM11 := Lib.hid (HRM.out.below hk11)
  have HNM11 := Lib.hid (HNMP.out.below hk11)
  have HPS11 := Lib.hid ((HPS10.out.below hk11).more9 hk11.size)
  have HK11 := Lib.hid (HK10.out.trans (hk11.mono HK10.out.size))
  have HX11 := Lib.hid (HX10.out.below hk11)
  have HSB : Hid (w8.heap.size ≤ bl ∧ w9.heap.size ≤ bl ∧ w9.heap.size ≤ bn ∧ w9.heap.size ≤ XB ∧ XB < w11.heap.size ∧ B0 < w8.heap.size ∧ w8.heap.size ≤ w9.heap.size ∧ w.heap.size ≤ w8.heap.size ∧ w8.heap.size ≤ w11.heap.size) := Lib.hid ⟨Nat.le_trans HBS8.out.1 hbl1, hbl1, hbn1, by rw [hXB]; exact HSZ.out, hXB1.lt, HBS8.out.2.2, HBS8.out.1, HBS8.out.2.1, by have := hXB1.lt; have := HSZ.out; have := HBS8.out.1; omega⟩
  obtain ⟨bs, hbs⟩ : ∃ bs, bs = w8.heap.size := ⟨_, rfl⟩
  obtain ⟨tp, htp⟩ : ∃ tp, tp = w9.heap.size := ⟨_, rfl⟩
  rw [← hbs, ← htp] at HSB HRM11
  rw [← hw11, ← hXB]
  clear hk11 hXB1 HRM HNMP HPS10 HK10 HX10 HSZ HBS8 hbn1 hbl1 hw11 hXB hbs htp
  go_upto_if 62 with fail
  go_cut [18] (fun s wx => s = .pointer (some ⟨XB, 0, none⟩) ∧ Btw bs tp w11 wx ∧ RMap wx bs tp bl v ids (m + 1) (upF nba nbl 1))
  case first =>
    by_cases hz : LN = 0
    · have hzi : ¬ ((0 : Int) < (LN : Int)) := by omega
      have HF1 := Lib.hid (HF0.out (HLN.out.2 hz))
      clear hz
      go_wp2_with fail
      go_meet
      exact ⟨rfl, Btw.refl _ _ _, HRM11.out.congr HF1.out⟩
    · have hzi : ((0 : Int) < (LN : Int)) := by omega
      have hne : l ≠ [] := fun h => hz (HLN.out.1 h)
      have HED1 := HED.out hne
      have HBS1 := Lib.hid (fun (W : World) (k : Below w11.heap.size w11 W) => HBS.out hne W bs tp bn bl v (HRM11.out.below k) (HNM11.out.below k) HSB.out.1)
      have HEN1 := Lib.hid (fun (W : World) (k : Below w11.heap.size w11 W) => HEN.out W bs tp bn bl v nbl 0 (HRM11.out.below k) HSB.out.1 HSB.out.2.1 (by omega))
      have HEE := Lib.hid (fun (W : World) (k : Below w11.heap.size w11 W) => hENH.out W A8 c8 ((HPS11.out.below k).more9 k.size))
      rw [HED1] at HEE
      have HLV0 := Lib.hid (fun j hj u => HLV.out 0 (by omega) j hj u)
      rw [HUZ.out] at HLV0
      have b0 : w11.drew.cell? ⟨XB, 0, none⟩ = some (.map (some bn)) := HXB.out.cell 0
      have b1 : w11.drew.cell? ⟨XB, 1, none⟩ = some (.map (some bl)) := HXB.out.cell 1
      have x0 : w11.drew.cell? ⟨B0, 0, none⟩ = some (.int .i64 xi) := HX11.out.cell 0
      have x1 : w11.drew.cell? ⟨B0, 1, none⟩ = some (.string xk) := HX11.out.cell 1
      have x2 : w11.drew.cell? ⟨B0, 2, none⟩ = some (.int .u32 (xw : Int)) := HX11.out.cell 2
      have hD : Below w11.heap.size w11 w11.drew := (Below.refl _ _).drew
      clear hz hne HED1
      go_upto_region 15 with fail
      simp only [show ((0 : Nat) : Int) = 0 from rfl] at HEN1
      have hl1 : XB < w11.drew.heap.size := HSB.out.2.2.2.2.1
      have hl2 : B0 < w11.drew.heap.size := Nat.lt_of_lt_of_le HSB.out.2.2.2.2.2.1 HSB.out.2.2.2.2.2.2.2.2
      go_region_held3 (fun W => W.cell? ⟨XB, 0, none⟩ = some (.map (some bn)) ∧ W.cell? ⟨XB, 1, none⟩ = some (.map (some bl)) ∧ W.cell? ⟨B0, 0, none⟩ = some (.int .i64 xi) ∧ W.cell? ⟨B0, 1, none⟩ = some (.string xk) ∧ W.cell? ⟨B0, 2, none⟩ = some (.int .u32 (xw : Int))) (first | with_reducible exact hx5 | with_reducible exact hx4 | with_reducible exact ⟨b0, b1, x0, x1, x2⟩ | with_reducible assumption) (first | (go_at_call 33; refine (HEN1.out wb hBb).mono ?_; rintro e wc ⟨rfl, hmc, hbc⟩; have hx5 := And.intro ((hbc.cell (p := ⟨XB, 0, none⟩) HSB.out.2.2.2.1 hl3).trans hx4.1) (And.intro ((hbc.cell (p := ⟨XB, 1, none⟩) HSB.out.2.2.2.1 hl3).trans hx4.2.1) (And.intro ((hbc.1.cell (p := ⟨B0, 0, none⟩) HSB.out.2.2.2.2.2.1).trans hx4.2.2.1) (And.intro ((hbc.1.cell (p := ⟨B0, 1, none⟩) HSB.out.2.2.2.2.2.1).trans hx4.2.2.2.1) ((hbc.1.cell (p := ⟨B0, 2, none⟩) HSB.out.2.2.2.2.2.1).trans hx4.2.2.2.2))))) | (go_at_call 34; refine (HBS1.out _ hD).mono ?_; rintro e wb ⟨rfl, hb4⟩; have hBb := hD.trans (hb4.mono hD.size); have hl3 : XB < wb.heap.size := Nat.lt_of_lt_of_le hl1 hb4.size; have hx4 := And.intro ((hb4.cell (p := ⟨XB, 0, none⟩) hl1).trans b0) (And.intro ((hb4.cell (p := ⟨XB, 1, none⟩) hl1).trans b1) (And.intro ((hb4.cell (p := ⟨B0, 0, none⟩) hl2).trans x0) (And.intro ((hb4.cell (p := ⟨B0, 1, none⟩) hl2).trans x1) ((hb4.cell (p := ⟨B0, 2, none⟩) hl2).trans x2))))) | (go_at_call 35; refine (HEE.out _ hD).mono ?_; rintro e wa ⟨rfl, rfl⟩))
      all_goals
        have HMC := Lib.hid (hmc.congr fun i hi u _ => HLV0.out i hi u)
        have HBC := Lib.hid ((Btw.of (base := bs) (tp := tp) hBb (Nat.le_trans (Nat.le_refl bs) (HSB.out.2.2.2.2.2.2.2.2))).trans hbc)
        clear hmc hbc hx5 hx4 hl3 hBb hb4 b0 b1 x0 x1 x2 hl1 hl2
        go_wp2_with fail
        go_meet
        exact ⟨rfl, HBC.out, HMC.out⟩
  case rest =>
    clear HRM11 HBS hENH HF0 HED HLN HUZ
    obtain ⟨rfl, hbt, hrm⟩ := hcut
    have HBT := Lib.hid hbt
    have HRM := Lib.hid hrm
    clear hbt hrm
    go_wp2_with fail
    go_loopw [19, 75] (fun vn vt wr => ∃ (t n : Nat), vn = .int .i64 (n : Int) ∧ vt = .int .i64 (t : Int) ∧ t ≤ m ∧ n ≤ 65 + 64 * t ∧ Hid (n = RN + sumR vs t) ∧ RMap wr bs tp bl v ids (m + 1) (upF nba nbl (t + 1)) ∧ Btw bs tp w11 wr) (fun _ vt _ => m - (intOf vt).toNat)
    case atStart => exact ⟨0, RN, rfl, rfl, by omega, by omega, Lib.hid rfl, HRM.out, HBT.out⟩
    case round =>
      clear HRM HBT
      obtain ⟨t, n, rfl, rfl, ht, hn, HN, hrm, hbt⟩ := hrel
      by_cases hlt : t < m
      · have i1 : (t : Int) < (m : Int) := by omega
        have hvs := HVS.out t (by omega)
        have HC4 := Lib.hid (HCL.out t hlt wr bs tp bn bl v hrm (HNM11.out.btw hbt HSB.out.2.2.1) HSB.out.1)
        have hl1 : XB < wr.heap.size := Nat.lt_of_lt_of_le HSB.out.2.2.2.2.1 hbt.1.size
        have hl2 : B0 < wr.heap.size := Nat.lt_of_lt_of_le (Nat.lt_of_lt_of_le HSB.out.2.2.2.2.2.1 HSB.out.2.2.2.2.2.2.2.2) hbt.1.size
        have HXr : Hid (Has wr XB 70 #[.map (some bn), .map (some bl)]) := Lib.hid ((hbt.2 XB HSB.out.2.2.2.1 HSB.out.2.2.2.2.1).trans HXB.out)
        have HYr : Hid (Has wr B0 25 #[.int .i64 xi, .string xk, .int .u32 (xw : Int)]) := Lib.hid ((hbt.1.block B0 HSB.out.2.2.2.2.2.1).trans HX11.out)
        have b0 := HXr.out.cell 0
        have b1 := HXr.out.cell 1
        have x0 := HYr.out.cell 0
        have x1 := HYr.out.cell 1
        have x2 := HYr.out.cell 2
        have HRMr := Lib.hid hrm
        have HBTr := Lib.hid hbt
        have HSU : Hid (RN + sumR vs (t + 1) = n + vs t) := Lib.hid (by rw [HN.out, sumR]; omega)
        have HEN2 := Lib.hid (fun (W : World) (h : RMap W bs tp bl v ids (m + 1) (upF nba nbl (t + 1))) => HEN.out W bs tp bn bl v (upF nba nbl (t + 1)) (t + 1) h HSB.out.1 HSB.out.2.1 (by omega))
        have HLV2 := Lib.hid (fun j hj u => HLV.out (t + 1) (by omega) j hj u)
        generalize vs t = vt at *
        have hw1 : IntKind.i64.wrap ((t : Int) + 1) = (t : Int) + 1 := IntWalk.i64_in _ (by omega)
        have hw2 : IntKind.i64.wrap ((n : Int) + (vt : Int)) = (n : Int) + (vt : Int) := IntWalk.i64_in _ (by omega)
        simp only [show ((t + 1 : Nat) : Int) = (t : Int) + 1 by omega] at HEN2
        have hbsr : bs ≤ wr.heap.size := Nat.le_trans HSB.out.2.2.2.2.2.2.2.2 hbt.1.size
        clear hrm hbt HN
        go_wp2_with fail
        refine (HC4.out).mono ?_
        rintro e wa ⟨rfl, hba⟩
        have HRMa := Lib.hid (HRMr.out.below hba)
        have HBTr2 : Hid (wr.heap.size ≤ wa.heap.size) := Lib.hid hba.size
        have HBTa := Lib.hid (HBTr.out.trans (Btw.of hba hbsr))
        have HXa := Lib.hid (HXr.out.below hba)
        have HYa := Lib.hid (HYr.out.below hba)
        generalize hyy : nbx (t + 1) = yy at *
        obtain ⟨yl, yr⟩ := yy
        simp only at *
        clear HC4 HRMr HBTr HXr HYr b0 b1 x0 x1 x2 hba
        go_upto_region 21 with fail
        obtain ⟨wb, hwb⟩ : ∃ wb, wb = wa.alloc (.cells #[.int .i64 yl, .int .i64 yr] 53) := ⟨_, rfl⟩
        have hkb : Below wa.heap.size wa wb := by rw [hwb]; exact (Below.refl wa.heap.size wa).alloc (Nat.le_refl _) _
        have hYb : Has wb wa.heap.size 53 #[.int .i64 yl, .int .i64 yr] := by rw [hwb]; exact Has.new _ _ _
        have y0 := hYb.cell 0
        have y1 := hYb.cell 1
        have HXb := Lib.hid (HXa.out.below hkb)
        have HYb := Lib.hid (HYa.out.below hkb)
        have b0 := HXb.out.cell 0
        have b1 := HXb.out.cell 1
        have x0 := HYb.out.cell 0
        have x1 := HYb.out.cell 1
        have x2 := HYb.out.cell 2
        have HBTb := Lib.hid (HBTa.out.trans (Btw.of hkb (Nat.le_trans hbsr (by have := HBTa.out.1.size; have := HBTr2.out; omega))))
        have HC6 := Lib.hid (HEN2.out wb (HRMa.out.below hkb))
        rw [← hwb]
        clear hkb hYb hwb HXa HYa HBTa HRMa HEN2
        go_wp2_with fail
        refine (HC6.out).mono ?_
        rintro e wc ⟨rfl, hmc, hbc⟩
        have HMC := Lib.hid (hmc.congr fun i hi u _ => HLV2.out i hi u)
        have HBC := Lib.hid (HBTb.out.trans hbc)
        clear hmc hbc HC6 HBTb b0 b1 x0 x1 x2 y0 y1 HLV2
        go_wp2_with fail
        exact ⟨⟨t + 1, n + vt, by simp, by go_num, hlt, by omega, Lib.hid (by rw [HSU.out]), HMC.out, HBC.out⟩, by simp [intOf]; omega⟩
      · have i1 : ¬ (t : Int) < (m : Int) := by omega
        have et : t = m := by omega
        subst et
        have HOW := Lib.hid (hrm.own)
        rw [HFI.out] at HOW
        have HBW := Lib.hid (HK11.out.trans (hbt.1.mono HSB.out.2.2.2.2.2.2.2.1))
        have HNN : Hid (((RN + sumR vs t : Nat) : Int) = (n : Int)) := Lib.hid (by rw [HN.out])
        clear hrm hbt HN
        go_wp2_with fail
        go_ret3
        exact ⟨v, by rw [HNN.out]; rfl, HOW.out.low_ HSB.out.2.2.2.2.2.2.2.1, HBW.out⟩
def ErrI (E : Int) (w : World) (e : Ending) (w' : World) : Prop := e = .returned (.tuple #[.slice none 0 0, .int .i64 0, .int .i64 E]) ∧ Below w.heap.size w w'
def InsP (l : List Nd) (k : List Ld) (x : Nd) (id h : Int) (w : World) (e : Ending) (w' : World) : Prop := (insE l k x id h ≠ 0 ∧ ErrI (insE l k x id h) w e w') ∨ (insE l k x id h = 0 ∧ InsOk (bldV (l ++ [x]) (h + 1).toNat) (insN l k x id h) w e w')
set_option maxRecDepth 100000 in
set_option maxHeartbeats 1600000 in
theorem insert_any (A A2 : Option Addr) (l : List Nd) (k : List Ld) (x : Nd) (c c2 : Nat) (id h : Int) (w : World) (hl : Nds w w.heap.size A l) (hk : Lds w w.heap.size A2 k) (hkn : k.length ≤ maxLen) (hwd : ∀ y ∈ l, y.word < 4294967296) (hxw : x.wide) (hid : I64 id) :
    Calls Tryz.prog 13 #[.slice A l.length c, .slice A2 k.length c2, x.val, .int .i64 id, .int .i64 h] w (InsP l k x id h w) := by
  obtain ⟨w1, hw1⟩ : ∃ w1, w1 = w.alloc (.cells #[.int .i64 x.id, .string x.key, .int .u32 (x.word : Int)] 25) := ⟨_, rfl⟩
  have hk1 : Below w.heap.size w w1 := by rw [hw1]; exact (Below.refl w.heap.size w).alloc (Nat.le_refl _) _
  have hX1 : Has w1 w.heap.size 25 #[.int .i64 x.id, .string x.key, .int .u32 (x.word : Int)] := by rw [hw1]; exact Has.new _ _ _
  have HK1 := Lib.hid hk1
  have HX1 := Lib.hid hX1
  have HI := Lib.hid (fun (W : World) => isLevelP_any h W)
  have HE := Lib.hid (exact_any A A2 l k c c2 h w1 ((hl.below hk1).more hk1.size) ((hk.below hk1).more hk1.size) hkn hwd)
  have hshow : ∀ (P : World → Ending → World → Prop), Calls Tryz.prog 13 #[.slice A l.length c, .slice A2 k.length c2, .agg #[.int .i64 x.id, .string x.key, .int .u32 (x.word : Int)], .int .i64 id, .int .i64 h] w (P w) → Calls Tryz.prog 13 #[.slice A l.length c, .slice A2 k.length c2, x.val, .int .i64 id, .int .i64 h] w (P w) := fun P q => q
  rcases insE_cases l k x id h with ⟨h1, he⟩ | ⟨h1, h2, he⟩ | ⟨h1, h2, h3, he⟩ | ⟨h1, h2, h3, h4, h5, he⟩ | ⟨h1, h2, h3, h4, he⟩
  · refine (hshow (ErrI 2) ?_).mono fun e w' k => .inl ⟨by rw [he]; decide, by rw [he]; exact k⟩
    rw [h1] at HI
    obtain ⟨xi, xk, xw⟩ := x
    simp only at *
    clear hl hk hkn hwd hxw hid h1 he HE hshow hX1 hk1
    generalize l.length = an
    generalize k.length = kn
    go_enter Tryz.func13, Tryz.ntmps13
    go_upto_region 1 with fail
    rw [← hw1]
    clear hw1
    go_wp2_with fail
    refine (HI.out _).mono ?_
    rintro e w2 ⟨rfl, rfl⟩
    go_wp2_with fail
    go_ret3
    exact ⟨rfl, HK1.out⟩
  · refine (hshow (ErrI 1) ?_).mono fun e w' k => .inl ⟨by rw [he]; decide, by rw [he]; exact k⟩
    rw [h1] at HI
    rw [h2] at HE
    obtain ⟨xi, xk, xw⟩ := x
    simp only at *
    clear hl hk hkn hwd hxw hid h1 h2 he hshow hX1 hk1
    generalize l.length = an at *
    generalize k.length = kn at *
    go_enter Tryz.func13, Tryz.ntmps13
    go_upto_region 1 with fail
    rw [← hw1]
    clear hw1
    go_wp2_with fail
    refine (HI.out _).mono ?_
    rintro e w2 ⟨rfl, rfl⟩
    go_wp2_with fail
    refine (HE.out).mono ?_
    rintro e w2 ⟨rfl, hb2⟩
    have HK2 := Lib.hid (HK1.out.trans (hb2.mono HK1.out.size))
    clear hb2 HE
    go_wp2_with fail
    go_ret3
    exact ⟨rfl, HK2.out⟩
  · obtain ⟨E, hE⟩ : ∃ E, E = chkV (l ++ [x]) := ⟨_, rfl⟩
    refine (hshow (ErrI E) ?_).mono fun e w' k => .inl ⟨by rw [he]; exact h3, by rw [he, ← hE]; exact k⟩
    rw [h1] at HI
    rw [h2] at HE
    obtain ⟨m, rfl, hm⟩ := lvB_is h1
    obtain ⟨hl0, ek⟩ := exa_is h2
    have hln : l.length ≤ 64 := (chkV_zero.1 hl0).1
    have hz : (E != 0) = true := by rw [hE]; simpa using h3
    have HC1 := Lib.hid (fun (W : World) (j : Below w.heap.size w W) (X : Nat) (Y : Nat) (h0 : W.cell? ⟨X, 0, none⟩ = some (.slice A l.length c)) (h1 : W.cell? ⟨X, 1, none⟩ = some (.slice (some ⟨Y, 0, none⟩) 1 1)) (hX : X < W.heap.size) (hY : Nds W W.heap.size (some ⟨Y, 0, none⟩) [x]) => concatN_any X A (some ⟨Y, 0, none⟩) l [x] c 1 W h0 h1 hX ((hl.below j).more j.size) hY (by omega) (by simp))
    have HCK := Lib.hid (fun (W : World) (A : Option Addr) (c : Nat) (h : Nds W W.heap.size A (l ++ [x])) => check_any A (l ++ [x]) c W h (fun y hy => (List.mem_append.1 hy).elim (hwd y) (fun hy => by
      obtain rfl : y = x := by simpa using hy
      exact hxw.2)))
    have HXN := Lib.hid (fun (W : World) (Y : Nat) (h : Has W Y 25 #[.int .i64 x.id, .string x.key, .int .u32 (x.word : Int)]) => one_nd h)
    rw [← hE] at HCK
    generalize l ++ [x] = al at *
    obtain ⟨xi, xk, xw⟩ := x
    simp only at *
    clear hl hk hkn hwd hxw hid h1 h2 h3 he hshow hX1 hk1 hl0 ek hE
    generalize l.length = LN at *
    generalize k.length = kn at *
    obtain ⟨AN, hAN⟩ : ∃ n, n = al.length := ⟨_, rfl⟩
    have HAN := Lib.hid hAN.symm
    rw [← hAN] at HCK
    clear hAN
    obtain ⟨B0, hB0⟩ : ∃ B0, B0 = w.heap.size := ⟨_, rfl⟩
    rw [← hB0] at HX1
    go_enter Tryz.func13, Tryz.ntmps13
    go_upto_region 1 with fail
    rw [← hw1, ← hB0]
    clear hw1 hB0
    go_wp2_with fail
    refine (HI.out _).mono ?_
    rintro e w2 ⟨rfl, rfl⟩
    go_wp2_with fail
    refine (HE.out).mono ?_
    rintro e w2 ⟨rfl, hb2⟩
    have HK2 := Lib.hid (HK1.out.trans (hb2.mono HK1.out.size))
    have HX2 := Lib.hid (HX1.out.below hb2)
    have x0 := HX2.out.cell 0
    have x1 := HX2.out.cell 1
    have x2 := HX2.out.cell 2
    clear hb2 HE HI HK1 HX1
    go_wp2_with fail
    obtain ⟨w4, hw4⟩ : ∃ w4, w4 = w2.alloc (.cells #[.int .i64 xi, .string xk, .int .u32 (xw : Int)] 25) := ⟨_, rfl⟩
    obtain ⟨w5, hw5⟩ : ∃ w5, w5 = w4.alloc (.cells #[.slice A LN c, .slice (some ⟨w2.heap.size, 0, none⟩) 1 1] 28) := ⟨_, rfl⟩
    have s4 : w4.heap.size = w2.heap.size + 1 := by rw [hw4, World.size_alloc]
    have hk4 : Below w2.heap.size w2 w4 := by rw [hw4]; exact (Below.refl w2.heap.size w2).alloc (Nat.le_refl _) _
    have hk5 : Below w4.heap.size w4 w5 := by rw [hw5]; exact (Below.refl w4.heap.size w4).alloc (Nat.le_refl _) _
    have hX4 : Has w4 w2.heap.size 25 #[.int .i64 xi, .string xk, .int .u32 (xw : Int)] := by rw [hw4]; exact Has.new _ _ _
    have hX5 : Has w5 (w2.heap.size + 1) 28 #[.slice A LN c, .slice (some ⟨w2.heap.size, 0, none⟩) 1 1] := by rw [← s4, hw5]; exact Has.new _ _ _
    have hk25 := hk4.trans (hk5.mono (by omega))
    have HK5 := Lib.hid (HK2.out.trans (hk25.mono HK2.out.size))
    have HC5 := Lib.hid (HC1.out w5 HK5.out (w2.heap.size + 1) w2.heap.size (hX5.cell 0) (hX5.cell 1) hX5.lt (HXN.out w5 w2.heap.size (hX4.below hk5)))
    rw [← hw4, ← hw5]
    clear hw4 hw5 s4 hk4 hk5 hX4 hX5 hk25 HC1 HXN HX2 HK2 x0 x1 x2
    refine (HC5.out).mono ?_
    rintro e w6 ⟨A6, c6, rfl, ho6, hb6⟩
    obtain ⟨_, _, er, hnd6⟩ := ho6.read
    injection er with e1 e3 e2
    clear e3
    subst e1 e2
    rw [HAN.out]
    have HK6 := Lib.hid (HK5.out.trans (hb6.mono HK5.out.size))
    have HCK6 := Lib.hid (HCK.out w6 A6 c6 hnd6)
    clear ho6 hnd6 hb6 HC5 HK5 HCK
    go_wp2_with fail
    refine (HCK6.out).mono ?_
    rintro e w7 ⟨rfl, hb7⟩
    have HK7 := Lib.hid (HK6.out.trans (hb7.mono HK6.out.size))
    clear hb7 HCK6 HK6
    go_wp2_with fail
    go_ret3
    exact ⟨rfl, HK7.out⟩
  · refine (hshow (ErrI 6) ?_).mono fun e w' k => .inl ⟨by rw [he]; decide, by rw [he]; exact k⟩
    rw [h1] at HI
    rw [h2] at HE
    obtain ⟨m, rfl, hm⟩ := lvB_is h1
    obtain ⟨hl0, ek⟩ := exa_is h2
    have hln : l.length ≤ 64 := (chkV_zero.1 hl0).1
    have hlw := wide_of hl0
    have HC1 := Lib.hid (fun (W : World) (j : Below w.heap.size w W) (X : Nat) (Y : Nat) (h0 : W.cell? ⟨X, 0, none⟩ = some (.slice A l.length c)) (h1 : W.cell? ⟨X, 1, none⟩ = some (.slice (some ⟨Y, 0, none⟩) 1 1)) (hX : X < W.heap.size) (hY : Nds W W.heap.size (some ⟨Y, 0, none⟩) [x]) => concatN_any X A (some ⟨Y, 0, none⟩) l [x] c 1 W h0 h1 hX ((hl.below j).more j.size) hY (by omega) (by simp))
    have HCK := Lib.hid (fun (W : World) (A : Option Addr) (c : Nat) (h : Nds W W.heap.size A (l ++ [x])) => (check_any A (l ++ [x]) c W h (fun y hy => (wide_of h3 y hy).2)).mono fun e w' k => (⟨by rw [k.1, h3], k.2⟩ : e = .returned (.int .i64 0) ∧ Below W.heap.size W w'))
    have HXN := Lib.hid (fun (W : World) (Y : Nat) (h : Has W Y 25 #[.int .i64 x.id, .string x.key, .int .u32 (x.word : Int)]) => one_nd h)
    have hkI : ∀ y ∈ k, -9223372036854775808 ≤ y.id ∧ y.id ≤ 9223372036854775807 := fun y hy => (bldV_wide hlw (m + 1) y (ek ▸ hy)).1
    have hkw : ∀ (i : Int) (t : Nat), I64 (atV k i (t : Int)).left ∧ I64 (atV k i (t : Int)).right := fun i t => atV_wide (k := k) (fun y hy z hz => (bldV_wide hlw (m + 1) y (ek ▸ hy)).2.2 z hz) i (t : Int)
    have hsr : sroE l id x.key = 6 := by
      unfold sroE
      have hvk : vk x.key = true := by have := List.all_eq_true.1 (chkV_zero.1 h3).2.1 x (by simp); simp [Nd.ok] at this; exact this.1.2
      rw [if_neg h4]
      unfold rteE
      rw [if_pos ⟨hl0, hvk⟩, if_neg h5]
    have HRT := Lib.hid (fun (W : World) (j : Below w.heap.size w W) => sroute_any A A2 l k c c2 id x.key W ((hl.below j).more j.size) ((hk.below j).more j.size) hkI hkn (fun y hy => (hlw y hy).2) hid hkw)
    rw [hsr] at HRT
    generalize rteR l k id x.key = R at *
    generalize l ++ [x] = al at *
    obtain ⟨xi, xk, xw⟩ := x
    simp only at *
    clear hl hk hkn hwd hxw hid h1 h2 h3 h4 h5 he hshow hX1 hk1 hl0 ek hkI hkw hsr hlw
    generalize l.length = LN at *
    generalize k.length = kn at *
    obtain ⟨AN, hAN⟩ : ∃ n, n = al.length := ⟨_, rfl⟩
    have HAN := Lib.hid hAN.symm
    rw [← hAN] at HCK
    clear hAN
    obtain ⟨B0, hB0⟩ : ∃ B0, B0 = w.heap.size := ⟨_, rfl⟩
    rw [← hB0] at HX1
    go_enter Tryz.func13, Tryz.ntmps13
    go_upto_region 1 with fail
    rw [← hw1, ← hB0]
    clear hw1 hB0
    go_wp2_with fail
    refine (HI.out _).mono ?_
    rintro e w2 ⟨rfl, rfl⟩
    go_wp2_with fail
    refine (HE.out).mono ?_
    rintro e w2 ⟨rfl, hb2⟩
    have HK2 := Lib.hid (HK1.out.trans (hb2.mono HK1.out.size))
    have HX2 := Lib.hid (HX1.out.below hb2)
    have x0 := HX2.out.cell 0
    have x1 := HX2.out.cell 1
    have x2 := HX2.out.cell 2
    clear hb2 HE HI HK1 HX1
    go_wp2_with fail
    obtain ⟨w4, hw4⟩ : ∃ w4, w4 = w2.alloc (.cells #[.int .i64 xi, .string xk, .int .u32 (xw : Int)] 25) := ⟨_, rfl⟩
    obtain ⟨w5, hw5⟩ : ∃ w5, w5 = w4.alloc (.cells #[.slice A LN c, .slice (some ⟨w2.heap.size, 0, none⟩) 1 1] 28) := ⟨_, rfl⟩
    have s4 : w4.heap.size = w2.heap.size + 1 := by rw [hw4, World.size_alloc]
    have hk4 : Below w2.heap.size w2 w4 := by rw [hw4]; exact (Below.refl w2.heap.size w2).alloc (Nat.le_refl _) _
    have hk5 : Below w4.heap.size w4 w5 := by rw [hw5]; exact (Below.refl w4.heap.size w4).alloc (Nat.le_refl _) _
    have hX4 : Has w4 w2.heap.size 25 #[.int .i64 xi, .string xk, .int .u32 (xw : Int)] := by rw [hw4]; exact Has.new _ _ _
    have hX5 : Has w5 (w2.heap.size + 1) 28 #[.slice A LN c, .slice (some ⟨w2.heap.size, 0, none⟩) 1 1] := by rw [← s4, hw5]; exact Has.new _ _ _
    have hk25 := hk4.trans (hk5.mono (by omega))
    have HK5 := Lib.hid (HK2.out.trans (hk25.mono HK2.out.size))
    have HX5 := Lib.hid (HX2.out.below hk25)
    have HC5 := Lib.hid (HC1.out w5 HK5.out (w2.heap.size + 1) w2.heap.size (hX5.cell 0) (hX5.cell 1) hX5.lt (HXN.out w5 w2.heap.size (hX4.below hk5)))
    rw [← hw4, ← hw5]
    clear hw4 hw5 s4 hk4 hk5 hX4 hX5 hk25 HC1 HXN HX2 HK2 x0 x1 x2
    refine (HC5.out).mono ?_
    rintro e w6 ⟨A6, c6, rfl, ho6, hb6⟩
    obtain ⟨_, _, er, hnd6⟩ := ho6.read
    injection er with e1 e3 e2
    clear e3
    subst e1 e2
    rw [HAN.out]
    have HK6 := Lib.hid (HK5.out.trans (hb6.mono HK5.out.size))
    have HX6 := Lib.hid (HX5.out.below hb6)
    have HCK6 := Lib.hid (HCK.out w6 A6 c6 hnd6)
    clear ho6 hnd6 hb6 HC5 HK5 HCK HX5
    go_wp2_with fail
    refine (HCK6.out).mono ?_
    rintro e w7 ⟨rfl, hb7⟩
    have HK7 := Lib.hid (HK6.out.trans (hb7.mono HK6.out.size))
    have HX7 := Lib.hid (HX6.out.below hb7)
    have HRT7 := Lib.hid (HRT.out w7 HK7.out)
    have x1 := HX7.out.cell 1
    clear hb7 HCK6 HK6 HX6 HRT
    go_wp2_with fail
    refine (HRT7.out).mono ?_
    rintro e w8 ⟨v8, rfl, ho8, hb8⟩
    have HK8 := Lib.hid (HK7.out.trans (hb8.mono HK7.out.size))
    clear hb8 ho8 HRT7 HK7 HX7 x1
    go_wp2_with fail
    go_ret3
    exact ⟨rfl, HK8.out⟩
  · obtain ⟨m, rfl, hm⟩ := lvB_is h1
    refine (insert_ok A A2 l k x c c2 id m w hl hk hid h2 h3 hm h4).mono fun e w' k => .inr ⟨he, ?_⟩
    rw [show ((m : Int) + 1).toNat = m + 1 by omega]
    exact k
end
section
open Go.RowKit Go.Maps

theorem nzK_parts (y : Lk) : nzK y = (if y.left = 0 then 0 else 1) + (if y.right = 0 then 0 else 1) := rfl
theorem plcD_of {l : List Nd} {k : List Ld} {M : Nat} (hc : chkV l = 0) (hM : M ≤ 17) (ek : k = bldV l M) {id : Int} (hid : id ∈ idsX l) : ∃ h : plcD k id < k.length, k[plcD k id].levels = (List.range M).map (nbF l id) := by
  have ek2 : k = lsF (idsX l) M (nbF l) := by rw [ek, ls_bld hc hM]
  have hp : plcD k id < k.length := by
    unfold plcD
    rw [List.findIdx_lt_length]
    obtain ⟨i, hi, e⟩ := List.getElem_of_mem hid
    have h1 : i < k.length := by rw [ek2, lsF_len]; exact hi
    refine ⟨k[i], List.getElem_mem h1, ?_⟩
    simp only [ek2, lsF_at, beq_iff_eq]
    exact e
  have h1 : (k[plcD k id].id == id) = true := List.findIdx_getElem (xs := k) (p := fun x : Ld => x.id == id) (w := hp)
  have h2 : k[plcD k id].id = id := by simpa using h1
  refine ⟨hp, ?_⟩
  generalize plcD k id = p at *
  subst ek2
  rw [lsF_at] at h2 ⊢
  simp only at h2 ⊢
  rw [h2]
theorem plcDI_not {l : List Nd} {M : Nat} {id : Int} (h : id ∉ idsX l) : plcDI (bldV l M) id = -1 := by
  refine plcDI_no fun j hj e => h ?_
  have : (bldV l M)[j].id ∈ (bldV l M).map Ld.id := List.mem_map.2 ⟨_, List.getElem_mem hj, rfl⟩
  rw [bld_ids, e] at this
  exact this
theorem idsX_wout {l : List Nd} {i id : Int} (h1 : i ∈ idsX l) (h2 : i ≠ id) : i ∈ idsX (wout l [id]) := by
  obtain ⟨y, hy, rfl⟩ := idsX_mem.1 h1
  exact idsX_mem.2 ⟨y, List.mem_filter.2 ⟨hy, by simpa using h2⟩, rfl⟩
theorem one_int10 {W : World} {Y : Nat} {x : Int} (hx : I64 x) (h : Has W Y 3 #[.int .i64 x]) : Ins W W.heap.size (some ⟨Y, 0, none⟩) [x] := fun _ => by
  refine ⟨_, 0, rfl, h.lt, fun i hi => ?_⟩
  have h2 : i = 0 := by simp at hi; omega
  subst h2
  exact ⟨hx, h.cell 0⟩
set_option maxRecDepth 100000 in
set_option maxHeartbeats 1600000 in
theorem remove_ok (A A2 : Option Addr) (l : List Nd) (k : List Ld) (c c2 : Nat) (id : Int) (m : Nat) (w : World) (hl : Nds w w.heap.size A l) (hk : Lds w w.heap.size A2 k) (hex : exaB l k (m : Int) = true) (hm : m ≤ 16) (hi : plc l id < l.length) :
    Calls Tryz.prog 17 #[.slice A l.length c, .slice A2 k.length c2, .int .i64 id, .int .i64 (m : Int)] w (InsOk (bldV (wout l [id]) (m + 1)) (sumR (fun t => nzK (atV k id (t : Int))) (m + 1)) w) := by
  obtain ⟨hl0, ek⟩ := exa_is hex
  have hln : l.length ≤ 64 := (chkV_zero.1 hl0).1
  have hkl : k.length = l.length := by rw [ek, bld_len]
  have hlw := wide_of hl0
  obtain ⟨x, hx, rfl⟩ := plc_found.1 hi
  have hxw := (hlw x hx).1
  have hr0 : chkV (wout l [x.id]) = 0 := chk_sub hl0 (wo_sub _ _)
  have hrw := wide_of hr0
  have hrl : (wout l [x.id]).length ≤ 64 := (chkV_zero.1 hr0).1
  have hkI : ∀ y ∈ k, -9223372036854775808 ≤ y.id ∧ y.id ≤ 9223372036854775807 := fun y hy => (bldV_wide hlw (m + 1) y (ek ▸ hy)).1
  have HI := Lib.hid (fun (W : World) => (isLevelP_any (m : Int) W).mono fun e w' h => (⟨by rw [h.1]; simp [lvB]; omega, h.2⟩ : e = .returned (.bool true) ∧ W = w'))
  have HE := Lib.hid (fun (W : World) (j : Below w.heap.size w W) => (exact_any A A2 l k c c2 (m : Int) W ((hl.below j).more j.size) ((hk.below j).more j.size) (by unfold maxLen; omega) (fun y hy => (hlw y hy).2)).mono fun e w' h => (⟨by rw [h.1, hex], h.2⟩ : e = .returned (.bool true) ∧ Below W.heap.size W w'))
  obtain ⟨hp, hlv⟩ := plcD_of hl0 (show m + 1 ≤ 17 by omega) ek (idsX_mem.2 ⟨x, hx, rfl⟩)
  have hpi : plcDI k x.id = (plcD k x.id : Int) := if_pos hp
  have HIX := Lib.hid (fun (W : World) (j : Below w.heap.size w W) (B : Nat) (hB : W.cell? ⟨B, 0, none⟩ = some (.int .i64 x.id)) (hBl : B < W.heap.size) => idxD_any A2 k c2 x.id B W ((hk.below j).more j.size) (by omega) hB hBl)
  rw [hpi] at HIX
  obtain ⟨kb, ko, eA2, hkb, -, A', c', f2, hlc, hcm, hlks⟩ := hk.at_ hp
  rw [hlv] at f2 hlc hlks
  have hlvn : ((List.range (m + 1)).map (nbF l x.id)).length = m + 1 := by simp
  rw [hlvn] at f2 hlc
  have HLK := Lib.hid (fun (t : Nat) (ht : t < m + 1) => (by
    obtain ⟨b, o, e, hb, g1, g2⟩ := hlks.at_ (show t < ((List.range (m + 1)).map (nbF l x.id)).length by simpa using ht)
    rw [List.getElem_map, List.getElem_range] at g1 g2
    exact ⟨b, o, e, hb, g1, g2⟩ : ∃ b o, A' = some ⟨b, o, none⟩ ∧ b < w.heap.size ∧ w.cell? ⟨b, o + t * 2, none⟩ = some (.int .i64 (nbF l x.id t).left) ∧ w.cell? ⟨b, o + t * 2 + 1, none⟩ = some (.int .i64 (nbF l x.id t).right)))
  have HWO := Lib.hid (fun (W : World) (j : Below w.heap.size w W) (A3 : Option Addr) (c3 : Nat) (h : Ins W W.heap.size A3 [x.id]) => without_any A A3 l c c3 [x.id] W ((hl.below j).more j.size) h (by omega) (by simp) (fun y hy => (hlw y hy).1))
  have HNM := Lib.hid (fun (W : World) (j : Below w.heap.size w W) (A4 : Option Addr) (c4 : Nat) (h : Nds W W.heap.size A4 (wout l [x.id])) => normal_ok A4 A2 (wout l [x.id]) k c4 c2 m W h ((hk.below j).more j.size) hkI (by unfold maxLen; omega) hr0 hm)
  have hnr : nrmV (wout l [x.id]) k (m + 1) = lsF (idsX (wout l [x.id])) (m + 1) (nbF l) := by rw [ek]; exact nrm_old hl0 (by omega)
  rw [hnr] at HNM
  have hII : ∀ i ∈ idsX (wout l [x.id]), I64 i := fun i hi => by
    obtain ⟨y, hy, rfl⟩ := idsX_mem.1 hi
    exact (hrw y hy).1
  have hnd := idsX_nodup hr0
  have h0i := idsX_zero hr0
  have HNW := Lib.hid (fun (W : World) (A4 : Option Addr) (c4 base : Nat) (v : Value) (h : Nds W W.heap.size A4 (wout l [x.id])) (hv : OwnD W base v (lsF (idsX (wout l [x.id])) (m + 1) (nbF l))) => networkOf_any A4 (wout l [x.id]) c4 base v (idsX (wout l [x.id])) (m + 1) (nbF l) W h hrw (by omega) hv hII (by rw [idsX_len]; omega))
  have HCN := Lib.hid (fun (t : Nat) (ht : t < m + 1) (W : World) (base tp bn bl : Nat) (v : Value) (f : Int → Nat → Lk) (h : RMap W base tp bl v (idsX (wout l [x.id])) (m + 1) f) (hbl : base ≤ bl) (htp : tp ≤ bl) => (by
    have h1 := nb_has hl0 hx (t := t) (by omega)
    have h2 := nb_nex hl0 hx (t := t) (by omega)
    exact nconnect_any base tp bn bl v (idsX (wout l [x.id])) (m + 1) f (nbF l x.id t).left (nbF l x.id t).right t W h hnd h0i hII hbl htp ht (h1.1.imp_right fun k => idsX_wout k h2.1) (h1.2.imp_right fun k => idsX_wout k h2.2) : Calls Tryz.prog 46 #[netV bn bl, .int .i64 (nbF l x.id t).left, .int .i64 (nbF l x.id t).right, .int .i64 (t : Int)] W (NetP base tp bl v (idsX (wout l [x.id])) (m + 1) (cnF f (nbF l x.id t).left (nbF l x.id t).right t) W)))
  have HLV := Lib.hid (fun (t : Nat) (ht : t ≤ 16) (j : Int) (hj : j ∈ idsX (wout l [x.id])) (u : Nat) => leave_lev hl0 hx ht hj u)
  have HFI : Hid (lsF (idsX (wout l [x.id])) (m + 1) (upF (nbF (wout l [x.id])) (nbF l) (m + 1)) = bldV (wout l [x.id]) (m + 1)) := Lib.hid (by
    rw [ls_bld hr0 (by omega)]
    exact lsF_congr fun i _ t ht => if_pos ht)
  have HUZ : Hid (upF (nbF (wout l [x.id])) (nbF l) 0 = nbF l) := Lib.hid (upF_zero _ _)
  have HSR : Hid (sumR (fun t => nzK (atV k x.id (t : Int))) (m + 1) = sumR (fun t => nzK (nbF l x.id t)) (m + 1)) := Lib.hid (sum_congr fun t ht => by rw [ek, at_bldA hl0 (by omega) x.id ht])
  rw [HSR.out]
  have HNZ := Lib.hid (fun (t : Nat) => nzK_parts (nbF l x.id t))
  generalize bldV (wout l [x.id]) (m + 1) = RB at *
  generalize hnbx : nbF l x.id = nbx at *
  generalize hnba : nbF (wout l [x.id]) = nba at *
  generalize hnbl : nbF l = nbl at *
  generalize idsX (wout l [x.id]) = ids at *
  generalize lsF ids (m + 1) nbl = LS0 at *
  generalize wout l [x.id] = rs at *
  generalize x.id = xi at *
  generalize plcD k xi = p at *
  have hpk : p < l.length := by omega
  obtain ⟨LN, hLN⟩ : ∃ n, n = l.length := ⟨_, rfl⟩
  obtain ⟨RN, hRN⟩ : ∃ n, n = rs.length := ⟨_, rfl⟩
  rw [hkl] at HE HIX HNM ⊢
  rw [← hLN] at HE HIX HNM HWO hpk ⊢
  rw [← hRN] at HNM HNW
  have HRNN := Lib.hid hRN.symm
  subst eA2
  obtain ⟨w1, hw1⟩ : ∃ w1, w1 = w.alloc (.cells #[.int .i64 xi] 3) := ⟨_, rfl⟩
  have hk1 : Below w.heap.size w w1 := by rw [hw1]; exact (Below.refl w.heap.size w).alloc (Nat.le_refl _) _
  have hX1 : Has w1 w.heap.size 3 #[.int .i64 xi] := by rw [hw1]; exact Has.new _ _ _
  obtain ⟨B0, hB0⟩ : ∃ B0, B0 = w.heap.size := ⟨_, rfl⟩
  rw [← hB0] at hX1
  have HK1 := Lib.hid hk1
  have HX1 := Lib.hid hX1
  have HE1 := Lib.hid (HE.out w1 hk1)
  have HF2 := Lib.hid f2
  have HXW := Lib.hid hxw
  clear hl hk hex hi hx hl0 ek hkl hlw hxw hr0 hrw hrl hkI hp hlv hpi hlks hlvn hnr hII hnd h0i hLN hRN hk1 hX1 HE HSR hnbx hnba hnbl f2
  go_enter Tryz.func17, Tryz.ntmps17
  go_upto_region 1 with fail
  rw [← hw1, ← hB0]
  clear hw1 hB0
  go_wp2_with fail
  refine (HI.out _).mono ?_
  rintro e w2 ⟨rfl, rfl⟩
  go_wp2_with fail
  refine (HE1.out).mono ?_
  rintro e w2 ⟨rfl, hb2⟩
  have HK2 := Lib.hid (HK1.out.trans (hb2.mono HK1.out.size))
  have HX2 := Lib.hid (HX1.out.below hb2)
  have HIX2 := Lib.hid (HIX.out w2 HK2.out B0 (HX2.out.cell 0) HX2.out.lt)
  clear hb2 HE1 HI HK1 HX1 HIX
  go_wp2_with fail
  refine (HIX2.out).mono ?_
  rintro e w3 ⟨rfl, hb3⟩
  have HK3 := Lib.hid (HK2.out.trans (hb3.mono HK2.out.size))
  have HX3 := Lib.hid (HX2.out.below hb3)
  have x0 := HX3.out.cell 0
  have hpn : ¬ ((p : Int) < 0) := by omega
  have hpd : decide ((p : Int) < 0) = false := decide_eq_false hpn
  clear hb3 HIX2 HK2 HX2
  go_wp2_with fail
  obtain ⟨w4, hw4⟩ : ∃ w4, w4 = w3.alloc (.cells #[.int .i64 xi] 3) := ⟨_, rfl⟩
  have hk4 : Below w3.heap.size w3 w4 := by rw [hw4]; exact (Below.refl w3.heap.size w3).alloc (Nat.le_refl _) _
  have hX4 : Has w4 w3.heap.size 3 #[.int .i64 xi] := by rw [hw4]; exact Has.new _ _ _
  have HK4 := Lib.hid (HK3.out.trans (hk4.mono HK3.out.size))
  have HWO4 := Lib.hid (HWO.out w4 HK4.out (some ⟨w3.heap.size, 0, none⟩) 1 (one_int10 HXW.out hX4))
  rw [← hw4]
  clear hw4 hk4 hX4 HWO HK3 HX3 x0
  refine (HWO4.out).mono ?_
  rintro e w6 ⟨A6, c6, rfl, ho6, hb6⟩
  obtain ⟨_, _, er, hnd6⟩ := ho6.read
  injection er with e1 e3 e2
  clear e3
  subst e1 e2
  rw [HRNN.out]
  have HN6 := Lib.hid hnd6
  have HK6 := Lib.hid (HK4.out.trans (hb6.mono HK4.out.size))
  have HNM6 := Lib.hid (HNM.out w6 HK6.out A6 c6 hnd6)
  clear ho6 hnd6 hb6 HWO4 HK4 HNM
  go_wp2_with fail
  refine (HNM6.out).mono ?_
  rintro e w9 ⟨v, rfl, ho9, hb9⟩
  have HN9 := Lib.hid ((HN6.out.below hb9).more hb9.size)
  have HK9 := Lib.hid (HK6.out.trans (hb9.mono HK6.out.size))
  have HNW9 := Lib.hid (HNW.out w9 A6 c6 w6.heap.size v HN9.out ho9)
  have HBS8 : Hid (w6.heap.size ≤ w9.heap.size ∧ w.heap.size ≤ w6.heap.size) := Lib.hid ⟨hb9.size, HK6.out.size⟩
  clear hb9 ho9 HNM6 HN6 HNW HK6
  go_wp2_with fail
  refine (HNW9.out).mono ?_
  rintro e w10 ⟨bn, bl, rfl, hbn1, hbl1, hnm, hrm, hb10⟩
  have HRM := Lib.hid hrm
  have HK10 := Lib.hid (HK9.out.trans (hb10.mono HK9.out.size))
  have HSZ := Lib.hid hb10.size
  clear hb10 hrm hnm HNW9 HK9 HN9
  simp only [netV] at HCN ⊢
  go_upto_region 12 with fail
  obtain ⟨w11, hw11⟩ : ∃ w11, w11 = w10.alloc (.cells #[.map (some bn), .map (some bl)] 70) := ⟨_, rfl⟩
  obtain ⟨XB, hXB⟩ : ∃ XB, XB = w10.heap.size := ⟨_, rfl⟩
  have hk11 : Below w10.heap.size w10 w11 := by rw [hw11]; exact (Below.refl w10.heap.size w10).alloc (Nat.le_refl _) _
  have hXB1 : Has w11 XB 70 #[.map (some bn), .map (some bl)] := by rw [hXB, hw11]; exact Has.new _ _ _
  have HXB := Lib.hid hXB1
  have HRM11 := Lib.hid (HRM.out.below hk11)
  have HK11 := Lib.hid (HK10.out.trans (hk11.mono HK10.out.size))
  have HSB : Hid (w6.heap.size ≤ bl ∧ w9.heap.size ≤ bl ∧ w9.heap.size ≤ bn ∧ w9.heap.size ≤ XB ∧ XB < w11.heap.size ∧ w.heap.size ≤ w6.heap.size ∧ w6.heap.size ≤ w11.heap.size) := Lib.hid ⟨Nat.le_trans HBS8.out.1 hbl1, hbl1, hbn1, by rw [hXB]; exact HSZ.out, hXB1.lt, HBS8.out.2, by have := hXB1.lt; have := HSZ.out; have := HBS8.out.1; omega⟩
  obtain ⟨bs, hbs⟩ : ∃ bs, bs = w6.heap.size := ⟨_, rfl⟩
  obtain ⟨tp, htp⟩ : ∃ tp, tp = w9.heap.size := ⟨_, rfl⟩
  rw [← hbs, ← htp] at HSB HRM11
  have f2 := (HK11.out.cell (p := ⟨kb, ko + p * 2 + 1, none⟩) hkb).trans HF2.out
  have p0 : (0 : Int) ≤ (p : Int) := by omega
  have p1 : (p : Int) < (LN : Int) := by omega
  rw [← hw11, ← hXB]
  clear hk11 hXB1 HRM HK10 HSZ HBS8 hbn1 hbl1 hw11 hXB hbs htp HF2
  go_wp2_with fail
  go_loopw [15, 50] (fun vn vt wr => ∃ (t n : Nat), vn = .int .i64 (n : Int) ∧ vt = .int .i64 (t : Int) ∧ t ≤ m + 1 ∧ n ≤ 2 * t ∧ Hid (n = sumR (fun t => nzK (nbx t)) t) ∧ RMap wr bs tp bl v ids (m + 1) (upF nba nbl t) ∧ Btw bs tp w11 wr) (fun _ vt _ => m + 1 - (intOf vt).toNat)
  case atStart => exact ⟨0, 0, rfl, rfl, by omega, by omega, Lib.hid rfl, by rw [HUZ.out]; exact HRM11.out, Btw.refl _ _ _⟩
  case round =>
    clear HRM11 f2
    obtain ⟨t, n, rfl, rfl, ht, hn, HN, hrm, hbt⟩ := hrel
    by_cases hlt : t < m + 1
    · have i0 : (0 : Int) ≤ (t : Int) := by omega
      have i1 : (t : Int) < (m : Int) + 1 := by omega
      have i2 : (t : Int) < ((m + 1 : Nat) : Int) := by omega
      obtain ⟨lb, lo, eL, hlb, g1, g2⟩ := HLK.out t hlt
      subst eL
      have hbw := HK11.out.trans (hbt.1.mono HSB.out.2.2.2.2.2.1)
      replace g1 := (hbw.cell (p := ⟨lb, lo + t * 2, none⟩) hlb).trans g1
      replace g2 := (hbw.cell (p := ⟨lb, lo + t * 2 + 1, none⟩) hlb).trans g2
      have HXr : Hid (Has wr XB 70 #[.map (some bn), .map (some bl)]) := Lib.hid ((hbt.2 XB HSB.out.2.2.2.1 HSB.out.2.2.2.2.1).trans HXB.out)
      have HC4 := Lib.hid (fun (W : World) (h : RMap W bs tp bl v ids (m + 1) (upF nba nbl t)) => HCN.out t hlt W bs tp bn bl v (upF nba nbl t) h HSB.out.1 HSB.out.2.1)
      have HLV2 := Lib.hid (fun j hj u => HLV.out t (by omega) j hj u)
      have HSU : Hid (sumR (fun t => nzK (nbx t)) (t + 1) = n + nzK (nbx t)) := Lib.hid (by rw [HN.out, sumR])
      have HZZ := Lib.hid (HNZ.out t)
      have HRMr := Lib.hid hrm
      have HBTr := Lib.hid hbt
      generalize nbx t = yy at *
      obtain ⟨yl, yr⟩ := yy
      simp only at *
      have hbsr : bs ≤ wr.heap.size := Nat.le_trans HSB.out.2.2.2.2.2.2 hbt.1.size
      clear hrm hbt HN hbw
      go_upto_region 15 with fail
      obtain ⟨wb, hwb⟩ : ∃ wb, wb = wr.alloc (.cells #[.int .i64 yl, .int .i64 yr] 53) := ⟨_, rfl⟩
      have hkb : Below wr.heap.size wr wb := by rw [hwb]; exact (Below.refl wr.heap.size wr).alloc (Nat.le_refl _) _
      obtain ⟨YB, hYB⟩ : ∃ YB, YB = wr.heap.size := ⟨_, rfl⟩
      have hYb : Has wb YB 53 #[.int .i64 yl, .int .i64 yr] := by rw [hYB, hwb]; exact Has.new _ _ _
      have y0 := hYb.cell 0
      have y1 := hYb.cell 1
      have HYb := Lib.hid hYb
      have HXb := Lib.hid (HXr.out.below hkb)
      have b0 := HXb.out.cell 0
      have b1 := HXb.out.cell 1
      have HBTb := Lib.hid (HBTr.out.trans (Btw.of (base := bs) (tp := tp) hkb hbsr))
      have HYT : Hid (tp ≤ YB) := Lib.hid (by have := HSB.out.2.2.2.1; have := HSB.out.2.2.2.2.1; have := HBTr.out.1.size; omega)
      have HC5 := Lib.hid (HC4.out wb (HRMr.out.below hkb))
      rw [← hwb, ← hYB]
      clear hkb hYb hwb hYB HXr HBTr HRMr HC4 g1 g2
      go_wp2_with fail
      refine (HC5.out).mono ?_
      rintro e wc ⟨rfl, hmc, hbc⟩
      have HMC := Lib.hid (hmc.congr fun i hi u _ => HLV2.out i hi u)
      have HBC := Lib.hid (HBTb.out.trans hbc)
      have hYc : Has wc YB 53 #[.int .i64 yl, .int .i64 yr] := (hbc.2 YB HYT.out HYb.out.lt).trans HYb.out
      have y0 := hYc.cell 0
      have y1 := hYc.cell 1
      clear hmc hbc HC5 HBTb b0 b1 HLV2 hYc HYb HXb
      go_upto_region 17 with fail
      obtain ⟨wd, hwd⟩ : ∃ wd, wd = wc.alloc (.cells #[.int .i64 yl, .int .i64 yr] 3) := ⟨_, rfl⟩
      have hkd : Below wc.heap.size wc wd := by rw [hwd]; exact (Below.refl wc.heap.size wc).alloc (Nat.le_refl _) _
      obtain ⟨SB, hSB⟩ : ∃ SB, SB = wc.heap.size := ⟨_, rfl⟩
      have hSd : Has wd SB 3 #[.int .i64 yl, .int .i64 yr] := by rw [hSB, hwd]; exact Has.new _ _ _
      have HSd := Lib.hid hSd
      have HMD := Lib.hid (HMC.out.below hkd)
      have HBD := Lib.hid (HBC.out.trans (Btw.of (base := bs) (tp := tp) hkd (Nat.le_trans HSB.out.2.2.2.2.2.2 HBC.out.1.size)))
      rw [← hwd, ← hSB]
      obtain ⟨zl, hzl⟩ : ∃ zl, zl = (if yl = 0 then 0 else 1 : Nat) := ⟨_, rfl⟩
      obtain ⟨zr, hzr⟩ : ∃ zr, zr = (if yr = 0 then 0 else 1 : Nat) := ⟨_, rfl⟩
      have hz2 : zl ≤ 1 ∧ zr ≤ 1 := by rw [hzl, hzr]; constructor <;> split <;> omega
      rw [← hzl, ← hzr] at HZZ
      have HZL := Lib.hid hzl
      have HZR := Lib.hid hzr
      clear hkd hwd hSB hSd HMC HBC y0 y1 hzl hzr
      go_wp2_with fail
      go_loopw [15, 68] (fun vn vi wz => ∃ (i q : Nat), vi = .int .i64 (i : Int) ∧ vn = .int .i64 (q : Int) ∧ i ≤ 2 ∧ Hid (q = if i = 0 then n else if i = 1 then n + zl else n + zl + zr) ∧ q ≤ 2 * t + i ∧ wd = wz) (fun _ vi _ => 2 - (intOf vi).toNat)
      case atStart => exact ⟨0, n, rfl, rfl, by omega, Lib.hid rfl, by omega, rfl⟩
      case round =>
        obtain ⟨i, q, rfl, rfl, hi2, HQ, hq, rfl⟩ := hrel
        by_cases hil : i < 2
        · have j0 : (0 : Int) ≤ (i : Int) := by omega
          have j1 : (i : Int) < 2 := by omega
          have hw1 : IntKind.i64.wrap ((q : Int) + 1) = (q : Int) + 1 := IntWalk.i64_in _ (by omega)
          have h3 : i = 0 ∨ i = 1 := by omega
          rcases h3 with rfl | rfl
          · have s0 := HSd.out.cell 0
            have HQ0 : Hid (q = n) := Lib.hid (by rw [HQ.out]; rfl)
            by_cases hz : yl = 0
            · have hzb : (yl != 0) = false := by simp [hz]
              have HZ0 : Hid (zl = 0) := Lib.hid (by rw [HZL.out, if_pos hz])
              clear hz
              go_wp2_with fail
              exact ⟨⟨1, q, rfl, rfl, by omega, Lib.hid (by rw [HQ0.out, HZ0.out]; rfl), by omega, trivial⟩, by simp [intOf]⟩
            · have hzb : (yl != 0) = true := by simp [hz]
              have HZ0 : Hid (zl = 1) := Lib.hid (by rw [HZL.out, if_neg hz])
              clear hz
              go_wp2_with fail
              exact ⟨⟨1, q + 1, rfl, by simp, by omega, Lib.hid (by rw [HQ0.out, HZ0.out]; rfl), by omega, trivial⟩, by simp [intOf]⟩
          · have s1 := HSd.out.cell 1
            have HQ0 : Hid (q = n + zl) := Lib.hid (by rw [HQ.out]; rfl)
            by_cases hz : yr = 0
            · have hzb : (yr != 0) = false := by simp [hz]
              have HZ0 : Hid (zr = 0) := Lib.hid (by rw [HZR.out, if_pos hz])
              clear hz
              go_wp2_with fail
              exact ⟨⟨2, q, rfl, rfl, by omega, Lib.hid (by rw [HQ0.out, HZ0.out]; rfl), by omega, trivial⟩, by simp [intOf]⟩
            · have hzb : (yr != 0) = true := by simp [hz]
              have HZ0 : Hid (zr = 1) := Lib.hid (by rw [HZR.out, if_neg hz])
              clear hz
              go_wp2_with fail
              exact ⟨⟨2, q + 1, rfl, by simp, by omega, Lib.hid (by rw [HQ0.out, HZ0.out]; rfl), by omega, trivial⟩, by simp [intOf]⟩
        · have ei : i = 2 := by omega
          subst ei
          have j1 : ¬ (((2 : Nat) : Int) < 2) := by omega
          have HQF : Hid (q = sumR (fun t => nzK (nbx t)) (t + 1)) := Lib.hid (by rw [HSU.out, HZZ.out, HQ.out, ← Nat.add_assoc]; rfl)
          clear HQ
          go_wp2_with fail
          exact ⟨⟨t + 1, q, rfl, by go_num, hlt, by omega, HQF, HMD.out, HBD.out⟩, by simp [intOf]; omega⟩
    · have i1 : ¬ ((t : Int) < ((m + 1 : Nat) : Int)) := by omega
      have i2 : ¬ ((t : Int) < (m : Int) + 1) := by omega
      have et : t = m + 1 := by omega
      have HOW := Lib.hid (hrm.own)
      rw [et, HFI.out] at HOW
      have HBW := Lib.hid (HK11.out.trans (hbt.1.mono HSB.out.2.2.2.2.2.1))
      have HNN : Hid (((sumR (fun t => nzK (nbx t)) (m + 1) : Nat) : Int) = (n : Int)) := Lib.hid (by rw [HN.out, et])
      clear hrm hbt HN et
      go_wp2_with fail
      go_ret3
      exact ⟨v, by rw [HNN.out]; rfl, HOW.out.low_ HSB.out.2.2.2.2.2.1, HBW.out⟩
def RemP (l : List Nd) (k : List Ld) (id h : Int) (w : World) (e : Ending) (w' : World) : Prop := (remE l k id h ≠ 0 ∧ ErrI (remE l k id h) w e w') ∨ (remE l k id h = 0 ∧ InsOk (bldV (wout l [id]) (h + 1).toNat) (remN k id h) w e w')
set_option maxRecDepth 100000 in
set_option maxHeartbeats 1600000 in
theorem remove_any (A A2 : Option Addr) (l : List Nd) (k : List Ld) (c c2 : Nat) (id h : Int) (w : World) (hl : Nds w w.heap.size A l) (hk : Lds w w.heap.size A2 k) (hkn : k.length ≤ maxLen) (hwd : ∀ y ∈ l, y.word < 4294967296) :
    Calls Tryz.prog 17 #[.slice A l.length c, .slice A2 k.length c2, .int .i64 id, .int .i64 h] w (RemP l k id h w) := by
  obtain ⟨w1, hw1⟩ : ∃ w1, w1 = w.alloc (.cells #[.int .i64 id] 3) := ⟨_, rfl⟩
  have hk1 : Below w.heap.size w w1 := by rw [hw1]; exact (Below.refl w.heap.size w).alloc (Nat.le_refl _) _
  have hX1 : Has w1 w.heap.size 3 #[.int .i64 id] := by rw [hw1]; exact Has.new _ _ _
  have HK1 := Lib.hid hk1
  have HX1 := Lib.hid hX1
  have HI := Lib.hid (fun (W : World) => isLevelP_any h W)
  have HE := Lib.hid (exact_any A A2 l k c c2 h w1 ((hl.below hk1).more hk1.size) ((hk.below hk1).more hk1.size) hkn hwd)
  rcases remE_cases l k id h with ⟨h1, he⟩ | ⟨h1, h2, he⟩ | ⟨h1, h2, h3, he⟩ | ⟨h1, h2, h3, he⟩
  · refine (show Calls Tryz.prog 17 _ w (ErrI 2 w) from ?_).mono fun e w' k => .inl ⟨by rw [he]; decide, by rw [he]; exact k⟩
    rw [h1] at HI
    clear hl hk hkn hwd h1 he HE hX1 hk1
    generalize l.length = an
    generalize k.length = kn
    go_enter Tryz.func17, Tryz.ntmps17
    go_upto_region 1 with fail
    rw [← hw1]
    clear hw1
    go_wp2_with fail
    refine (HI.out _).mono ?_
    rintro e w2 ⟨rfl, rfl⟩
    go_wp2_with fail
    go_ret3
    exact ⟨rfl, HK1.out⟩
  · refine (show Calls Tryz.prog 17 _ w (ErrI 1 w) from ?_).mono fun e w' k => .inl ⟨by rw [he]; decide, by rw [he]; exact k⟩
    rw [h1] at HI
    rw [h2] at HE
    clear hl hk hkn hwd h1 h2 he hX1 hk1
    generalize l.length = an at *
    generalize k.length = kn at *
    go_enter Tryz.func17, Tryz.ntmps17
    go_upto_region 1 with fail
    rw [← hw1]
    clear hw1
    go_wp2_with fail
    refine (HI.out _).mono ?_
    rintro e w2 ⟨rfl, rfl⟩
    go_wp2_with fail
    refine (HE.out).mono ?_
    rintro e w2 ⟨rfl, hb2⟩
    have HK2 := Lib.hid (HK1.out.trans (hb2.mono HK1.out.size))
    clear hb2 HE
    go_wp2_with fail
    go_ret3
    exact ⟨rfl, HK2.out⟩
  · refine (show Calls Tryz.prog 17 _ w (ErrI 6 w) from ?_).mono fun e w' k => .inl ⟨by rw [he]; decide, by rw [he]; exact k⟩
    rw [h1] at HI
    rw [h2] at HE
    obtain ⟨m, rfl, hm⟩ := lvB_is h1
    obtain ⟨hl0, ek⟩ := exa_is h2
    have hln : l.length ≤ 64 := (chkV_zero.1 hl0).1
    have hkl : k.length = l.length := by rw [ek, bld_len]
    have hpi : plcDI k id = -1 := by
      rw [ek]
      exact plcDI_not fun e => by
        obtain ⟨y, hy, rfl⟩ := idsX_mem.1 e
        exact h3 (plc_mem hy)
    have HIX := Lib.hid (fun (W : World) (j : Below w.heap.size w W) (B : Nat) (hB : W.cell? ⟨B, 0, none⟩ = some (.int .i64 id)) (hBl : B < W.heap.size) => idxD_any A2 k c2 id B W ((hk.below j).more j.size) (by omega) hB hBl)
    rw [hpi] at HIX
    clear hl hk hkn hwd h1 h2 h3 he hX1 hk1 hl0 ek hkl hpi
    generalize l.length = an at *
    generalize k.length = kn at *
    obtain ⟨B0, hB0⟩ : ∃ B0, B0 = w.heap.size := ⟨_, rfl⟩
    rw [← hB0] at HX1
    go_enter Tryz.func17, Tryz.ntmps17
    go_upto_region 1 with fail
    rw [← hw1, ← hB0]
    clear hw1 hB0
    go_wp2_with fail
    refine (HI.out _).mono ?_
    rintro e w2 ⟨rfl, rfl⟩
    go_wp2_with fail
    refine (HE.out).mono ?_
    rintro e w2 ⟨rfl, hb2⟩
    have HK2 := Lib.hid (HK1.out.trans (hb2.mono HK1.out.size))
    have HX2 := Lib.hid (HX1.out.below hb2)
    have HIX2 := Lib.hid (HIX.out w2 HK2.out B0 (HX2.out.cell 0) HX2.out.lt)
    clear hb2 HE HI HK1 HX1 HIX
    go_wp2_with fail
    refine (HIX2.out).mono ?_
    rintro e w3 ⟨rfl, hb3⟩
    have HK3 := Lib.hid (HK2.out.trans (hb3.mono HK2.out.size))
    clear hb3 HIX2 HK2 HX2
    go_wp2_with fail
    go_ret3
    exact ⟨rfl, HK3.out⟩
  · obtain ⟨m, rfl, hm⟩ := lvB_is h1
    refine (remove_ok A A2 l k c c2 id m w hl hk h2 hm h3).mono fun e w' k => .inr ⟨he, ?_⟩
    unfold remN
    rw [show ((m : Int) + 1).toNat = m + 1 by omega]
    exact k
end
section
open Go.RowKit Go.Maps

theorem insP_ok {l : List Nd} {k : List Ld} {x : Nd} {id : Int} {m : Nat} {w w' : World} {e : Ending} {R : List Ld} {n : Nat} (h : InsP l k x id (m : Int) w e w') (hE : insE l k x id (m : Int) = 0) (hR : bldV (l ++ [x]) (m + 1) = R) (hn : insN l k x id (m : Int) = n) : InsOk R n w e w' := by
  rcases h with ⟨h1, _⟩ | ⟨_, h⟩
  · exact absurd hE h1
  · rw [show ((m : Int) + 1).toNat = m + 1 by omega, hR, hn] at h
    exact h
theorem remP_ok {l : List Nd} {k : List Ld} {id : Int} {m : Nat} {w w' : World} {e : Ending} {R : List Ld} {n : Nat} (h : RemP l k id (m : Int) w e w') (hE : remE l k id (m : Int) = 0) (hR : bldV (wout l [id]) (m + 1) = R) (hn : remN k id (m : Int) = n) : InsOk R n w e w' := by
  rcases h with ⟨h1, _⟩ | ⟨_, h⟩
  · exact absurd hE h1
  · rw [show ((m : Int) + 1).toNat = m + 1 by omega, hR, hn] at h
    exact h
theorem two_nds {W : World} {Y : Nat} {x y : Nd} (h : Has W Y 25 #[.int .i64 x.id, .string x.key, .int .u32 (x.word : Int), .int .i64 y.id, .string y.key, .int .u32 (y.word : Int)]) : Nds W W.heap.size (some ⟨Y, 0, none⟩) [x, y] := fun _ => by
  refine ⟨_, 0, rfl, h.lt, fun i hi => ?_⟩
  have h2 : i = 0 ∨ i = 1 := by simp at hi; omega
  rcases h2 with rfl | rfl
  · exact ⟨h.cell 0, h.cell 1, h.cell 2⟩
  · exact ⟨h.cell 3, h.cell 4, h.cell 5⟩
set_option maxRecDepth 100000 in
set_option maxHeartbeats 400000 in
theorem sane10_any (w : World) : Calls Tryz.prog 16 #[] w (LawP w) := by
  have hwa : nA10.wide := ⟨by decide, by decide⟩
  have hwb : nB10.wide := ⟨by decide, by decide⟩
  have hwt : ∀ y ∈ [nA10, nB10], y.word < 4294967296 := fun y hy => by
    rcases List.mem_cons.1 hy with rfl | hy
    · exact hwa.2
    · rw [List.mem_singleton.1 hy]; exact hwb.2
  have HI1 := Lib.hid (fun (W : World) => (by exact (insert_any none none [] [] nA10 0 0 7 ((1 : Nat) : Int) W (fun h => absurd rfl h) (fun h => absurd rfl h) (by unfold maxLen; simp) (fun _ h => by simp at h) hwa ⟨by decide, by decide⟩).mono fun e w' h => insP_ok h t_ins1.1 t_bld1 t_ins1.2.1 : Calls Tryz.prog 13 #[.slice none 0 0, .slice none 0 0, .agg #[.int .i64 1, .string ⟨#[97]⟩, .int .u32 0], .int .i64 7, .int .i64 1] W (InsOk [⟨1, [⟨0, 0⟩, ⟨0, 0⟩]⟩] 0 W)))
  have HI2 := Lib.hid (fun (W : World) (A A2 : Option Addr) (c2 : Nat) (h : Nds W W.heap.size A [nA10]) (h2 : Lds W W.heap.size A2 [⟨1, [⟨0, 0⟩, ⟨0, 0⟩]⟩]) => (by exact (insert_any A A2 [nA10] [⟨1, [⟨0, 0⟩, ⟨0, 0⟩]⟩] nB10 1 c2 1 ((1 : Nat) : Int) W h h2 (by unfold maxLen; simp) (fun y hy => by rw [List.mem_singleton.1 hy]; exact hwa.2) hwb ⟨by decide, by decide⟩).mono fun e w' h => insP_ok h (by rw [← t_bld1]; exact t_ins2.1) t_bld2 (by rw [← t_bld1]; exact t_ins2.2) : Calls Tryz.prog 13 #[.slice A 1 1, .slice A2 1 c2, .agg #[.int .i64 2, .string ⟨#[98]⟩, .int .u32 1], .int .i64 1, .int .i64 1] W (InsOk [⟨1, [⟨0, 2⟩, ⟨0, 0⟩]⟩, ⟨2, [⟨1, 0⟩, ⟨0, 0⟩]⟩] 1 W)))
  have HI3 := Lib.hid (fun (W : World) (A A2 : Option Addr) (c2 : Nat) (h : Nds W W.heap.size A [nA10, nB10]) (h2 : Lds W W.heap.size A2 [⟨1, [⟨0, 2⟩, ⟨0, 0⟩]⟩, ⟨2, [⟨1, 0⟩, ⟨0, 0⟩]⟩]) => (by exact (remove_any A A2 [nA10, nB10] [⟨1, [⟨0, 2⟩, ⟨0, 0⟩]⟩, ⟨2, [⟨1, 0⟩, ⟨0, 0⟩]⟩] 2 c2 2 ((1 : Nat) : Int) W h h2 (by unfold maxLen; simp) hwt).mono fun e w' h => remP_ok h (by rw [← t_bld2]; exact t_rem.1) (by rw [t_rem.2.2]; exact t_bld1) (by rw [← t_bld2]; exact t_rem.2.1) : Calls Tryz.prog 17 #[.slice A 2 2, .slice A2 2 c2, .int .i64 2, .int .i64 1] W (InsOk [⟨1, [⟨0, 0⟩, ⟨0, 0⟩]⟩] 1 W)))
  have HSM := Lib.hid (fun (W : World) (A1 A2 : Option Addr) (c1 c2 : Nat) (h1 : Lds W W.heap.size A1 [⟨1, [⟨0, 0⟩, ⟨0, 0⟩]⟩]) (h2 : Lds W W.heap.size A2 [⟨1, [⟨0, 0⟩, ⟨0, 0⟩]⟩]) => (by
    have := rsame6_any A1 A2 [⟨1, [⟨0, 0⟩, ⟨0, 0⟩]⟩] [⟨1, [⟨0, 0⟩, ⟨0, 0⟩]⟩] c1 c2 W h1 h2 (by simp)
    rw [decide_eq_true rfl] at this
    exact this : Calls Tryz.prog 15 #[.slice A1 1 c1, .slice A2 1 c2] W (BoolN true W)))
  have HN1 := Lib.hid (fun (W : World) (Y : Nat) (h : Has W Y 25 #[.int .i64 1, .string ⟨#[97]⟩, .int .u32 0]) => (by exact one_nd (x := nA10) h : Nds W W.heap.size (some ⟨Y, 0, none⟩) [nA10]))
  have HN2 := Lib.hid (fun (W : World) (Y : Nat) (h : Has W Y 25 #[.int .i64 1, .string ⟨#[97]⟩, .int .u32 0, .int .i64 2, .string ⟨#[98]⟩, .int .u32 1]) => (by exact two_nds (x := nA10) (y := nB10) h : Nds W W.heap.size (some ⟨Y, 0, none⟩) [nA10, nB10]))
  generalize nA10 = na at *
  generalize nB10 = nb at *
  obtain ⟨R1, hR1⟩ : ∃ R, R = [(⟨1, [⟨0, 0⟩, ⟨0, 0⟩]⟩ : Ld)] := ⟨_, rfl⟩
  obtain ⟨R2, hR2⟩ : ∃ R, R = [(⟨1, [⟨0, 2⟩, ⟨0, 0⟩]⟩ : Ld), ⟨2, [⟨1, 0⟩, ⟨0, 0⟩]⟩] := ⟨_, rfl⟩
  have HR1 : Hid (R1.length = 1) := Lib.hid (by rw [hR1]; rfl)
  have HR2 : Hid (R2.length = 2) := Lib.hid (by rw [hR2]; rfl)
  rw [← hR1] at HI1 HI2 HI3 HSM
  rw [← hR2] at HI2 HI3
  obtain ⟨w1, hw1⟩ : ∃ w1, w1 = w.alloc (.cells #[.int .i64 1, .string ⟨#[97]⟩, .int .u32 0] 25) := ⟨_, rfl⟩
  obtain ⟨w2, hw2⟩ : ∃ w2, w2 = w1.alloc (.cells #[.int .i64 2, .string ⟨#[98]⟩, .int .u32 1] 25) := ⟨_, rfl⟩
  have s1 : w1.heap.size = w.heap.size + 1 := by rw [hw1, World.size_alloc]
  have hk1 : Below w.heap.size w w1 := by rw [hw1]; exact (Below.refl w.heap.size w).alloc (Nat.le_refl _) _
  have hk2 : Below w1.heap.size w1 w2 := by rw [hw2]; exact (Below.refl _ _).alloc (Nat.le_refl _) _
  have hX1 : Has w1 w.heap.size 25 #[.int .i64 1, .string ⟨#[97]⟩, .int .u32 0] := by rw [hw1]; exact Has.new _ _ _
  have hX2 : Has w2 (w.heap.size + 1) 25 #[.int .i64 2, .string ⟨#[98]⟩, .int .u32 1] := by rw [← s1, hw2]; exact Has.new _ _ _
  have HX := Lib.hid (hX1.below hk2)
  have HY := Lib.hid hX2
  have HB := Lib.hid (hk1.trans (hk2.mono (by omega)))
  obtain ⟨X, hX⟩ : ∃ X, X = w.heap.size := ⟨_, rfl⟩
  obtain ⟨Y, hY⟩ : ∃ Y, Y = w.heap.size + 1 := ⟨_, rfl⟩
  rw [← hY] at HY
  rw [← hX] at HX
  clear hwa hwb hwt hR1 hR2 hk1 hk2 hX1 hX2 s1
  go_enter Tryz.func16, Tryz.ntmps16
  go_upto_region 2 with fail
  rw [← hw1, ← hw2, ← hY]
  try rw [← hX]
  have x0 := HX.out.cell 0
  have x1 := HX.out.cell 1
  have x2 := HX.out.cell 2
  clear hw1 hw2 hX hY
  go_wp2_with fail
  refine (HI1.out _).mono ?_
  rintro e w3 ⟨v3, rfl, ho3, hb3⟩
  obtain ⟨A3, c3, rfl, _, _, hr3⟩ := ho3.read
  rw [HR1.out]
  have HX3 := Lib.hid (HX.out.below hb3)
  have HY3 := Lib.hid (HY.out.below hb3)
  have HB3 := Lib.hid (HB.out.trans (hb3.mono HB.out.size))
  have HD3 := Lib.hid hr3
  have x0 := HX3.out.cell 0
  have x1 := HX3.out.cell 1
  have x2 := HX3.out.cell 2
  clear ho3 hb3 hr3 HI1 HX HY HB
  have hka := (Below.refl w3.heap.size w3).alloc (Nat.le_refl _) (.cells #[.int .i64 1, .string ⟨#[97]⟩, .int .u32 0] 25)
  have y0 := (HY3.out.below hka).cell 0
  have y1 := (HY3.out.below hka).cell 1
  have y2 := (HY3.out.below hka).cell 2
  clear hka
  go_wp2_with fail
  obtain ⟨w4, hw4⟩ : ∃ w4, w4 = w3.alloc (.cells #[.int .i64 1, .string ⟨#[97]⟩, .int .u32 0] 25) := ⟨_, rfl⟩
  have hk4 : Below w3.heap.size w3 w4 := by rw [hw4]; exact (Below.refl w3.heap.size w3).alloc (Nat.le_refl _) _
  have hN4 := HN1.out w4 w3.heap.size (by rw [hw4]; exact Has.new _ _ _)
  have HX4 := Lib.hid (HX3.out.below hk4)
  have HY4 := Lib.hid (HY3.out.below hk4)
  have HB4 := Lib.hid (HB3.out.trans (hk4.mono HB3.out.size))
  have HD4 := Lib.hid ((HD3.out.below hk4).more hk4.size)
  have HI4 := Lib.hid (HI2.out w4 _ A3 c3 hN4 HD4.out)
  rw [← hw4]
  clear hk4 hN4 hw4 HI2 HX3 HB3 HD3 HY3 x0 x1 x2 y0 y1 y2
  refine (HI4.out).mono ?_
  rintro e w5 ⟨v5, rfl, ho5, hb5⟩
  obtain ⟨A5, c5, rfl, _, _, hr5⟩ := ho5.read
  rw [HR2.out]
  have HX5 := Lib.hid (HX4.out.below hb5)
  have HY5 := Lib.hid (HY4.out.below hb5)
  have HB5 := Lib.hid (HB4.out.trans (hb5.mono HB4.out.size))
  have HD5 := Lib.hid ((HD4.out.below hb5).more hb5.size)
  have HE5 := Lib.hid hr5
  have x0 := HX5.out.cell 0
  have x1 := HX5.out.cell 1
  have x2 := HX5.out.cell 2
  have y0 := HY5.out.cell 0
  have y1 := HY5.out.cell 1
  have y2 := HY5.out.cell 2
  clear ho5 hb5 hr5 HI4 HX4 HY4 HB4 HD4
  go_wp2_with fail
  obtain ⟨w6, hw6⟩ : ∃ w6, w6 = w5.alloc (.cells #[.int .i64 1, .string ⟨#[97]⟩, .int .u32 0, .int .i64 2, .string ⟨#[98]⟩, .int .u32 1] 25) := ⟨_, rfl⟩
  have hk6 : Below w5.heap.size w5 w6 := by rw [hw6]; exact (Below.refl w5.heap.size w5).alloc (Nat.le_refl _) _
  have hN6 := HN2.out w6 w5.heap.size (by rw [hw6]; exact Has.new _ _ _)
  have HB6 := Lib.hid (HB5.out.trans (hk6.mono HB5.out.size))
  have HD6 := Lib.hid ((HD5.out.below hk6).more hk6.size)
  have HI6 := Lib.hid (HI3.out w6 _ A5 c5 hN6 ((HE5.out.below hk6).more hk6.size))
  rw [← hw6]
  clear hk6 hN6 hw6 HI3 HX5 HY5 HB5 HD5 HE5 x0 x1 x2 y0 y1 y2
  refine (HI6.out).mono ?_
  rintro e w7 ⟨v7, rfl, ho7, hb7⟩
  obtain ⟨A7, c7, rfl, _, _, hr7⟩ := ho7.read
  rw [HR1.out]
  have HB7 := Lib.hid (HB6.out.trans (hb7.mono HB6.out.size))
  have HSS := Lib.hid (HSM.out w7 A3 A7 c3 c7 ((HD6.out.below hb7).more hb7.size) hr7)
  clear ho7 hb7 hr7 HI6 HB6 HD6 HSM
  go_wp2_with fail
  refine (HSS.out).mono ?_
  rintro e w8 ⟨rfl, hb8⟩
  have HB8 := Lib.hid (HB7.out.trans (hb8.mono HB7.out.size))
  clear hb8
  go_wp2_with fail
  go_ret
  exact ⟨rfl, HB8.out⟩
end
end Go.Proofs.YtjokbdhineilcaaGreatDoor
