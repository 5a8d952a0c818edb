/-
  Package search: stopsByNumber. Conditions: the nodes are a roster and can be read, as can the links.
  Package search: route. Conditions: the stops are those of a roster, and the first one is one of them.
  Package search: Route. Conditions: the nodes and links can be read, and their numbers fit.
-/
import Derived.Test.YtjokbdhineilcaaGreatDoorLuC
import Derived.Test.YtjokbdhineilcaaGreatDoorLpA
import Derived.Test.YtjokbdhineilcaaGreatDoorLmD
import Derived.Test.YtjokbdhineilcaaGreatDoorLmG
import Derived.StillTailTactics
import Derived.Deep.DeepCutAuto
import Derived.Deep.CutBlock
import Derived.Test.YtjokbdhineilcaaGreatDoorLnA
import Derived.Test.YtjokbdhineilcaaGreatDoorKsC
import Derived.Test.YtjokbdhineilcaaGreatDoorKfA
namespace Go.Proofs.YtjokbdhineilcaaGreatDoor
section
open Go.RowKit


theorem zeroSt (w : World) : (zeroValue 115).run Tryz.prog w = .ok (.agg #[.int .i64 0, .string ByteArray.empty, .int .u32 0, .slice none 0 0]) w := by kernel_rfl
def zS : Value := .agg #[.int .i64 0, .string ByteArray.empty, .int .u32 0, .slice none 0 0]
/-- What stopsByNumber has put in, from the first elements on. -/
def stF (s : List Nd) (q : List Value) (i : Int) : Option Value := ((s.zip q).find? fun p => decide (p.1.id = i)).map fun p => stV p.1 p.2
theorem stF_next {s : List Nd} {q : List Value} (ha : s.Pairwise Nd.apart) {k : Nat} (h1 : k < s.length) (h2 : k < q.length) (i : Int) : updV (stF (s.take k) (q.take k)) s[k].id (stV s[k] q[k]) i = stF (s.take (k + 1)) (q.take (k + 1)) i := by
  unfold stF updV
  have e : (s.take (k + 1)).zip (q.take (k + 1)) = (s.take k).zip (q.take k) ++ [(s[k], q[k])] := by
    rw [List.take_succ_eq_append_getElem h1, List.take_succ_eq_append_getElem h2, List.zip_append (by simp; omega)]
    rfl
  rw [e, List.find?_append]
  by_cases hi : i = s[k].id
  · subst hi
    have hn : ((s.take k).zip (q.take k)).find? (fun p => decide (p.1.id = s[k].id)) = none := by
      rw [List.find?_eq_none]
      intro p hp
      have hm := (List.of_mem_zip hp).1
      obtain ⟨j, hj, hje⟩ := List.getElem_of_mem hm
      rw [List.getElem_take] at hje
      rw [List.length_take] at hj
      have := (List.pairwise_iff_getElem.1 ha j k (by omega) h1 (by omega)).1
      rw [← hje]
      simpa using this
    rw [hn]
    simp
  · have hne : ¬ s[k].id = i := fun e => hi e.symm
    have hn : ([(s[k], q[k])] : List (Nd × Value)).find? (fun p => decide (p.1.id = i)) = none := by simp [hne]
    rw [if_neg hi, hn, Option.or_none]
theorem nrm_get {l : List Nd} {k : List Ld} {n j : Nat} (h1 : j < (nrmV l k n).length) (h2 : j < (srt l).length) : (nrmV l k n)[j] = ⟨(srt l)[j].id, (List.range n).map fun (t : Nat) => atV k (srt l)[j].id (t : Int)⟩ := by simp [nrmV]
/-- The stops of the nodes of a roster: the map, and how its slices of links are read. -/
def Stops (w : World) (l : List Nd) (k : List Ld) (v : Value) : Prop :=
  ∃ b n f, v = .map (some b) ∧ VMap w b n zS f ∧ ∀ i : Int, (plc l i < l.length → ∃ A c, f i = some (stV (fndV l i) (.slice A 17 c)) ∧ Lks w w.heap.size A ((List.range 17).map fun (t : Nat) => atV k i (t : Int))) ∧ (¬ plc l i < l.length → f i = none)
theorem Stops.below {w w' : World} {l : List Nd} {k : List Ld} {v : Value} (h : Stops w l k v) (j : Below w.heap.size w w') : Stops w' l k v := by
  obtain ⟨b, n, f, e, h1, h2⟩ := h
  refine ⟨b, n, f, e, h1.below j, fun i => ⟨fun hi => ?_, (h2 i).2⟩⟩
  obtain ⟨A, c, h3, h4⟩ := (h2 i).1 hi
  exact ⟨A, c, h3, (h4.below j).more j.size⟩
theorem stF_all {w : World} {B : Nat} {A : Option Addr} {l : List Nd} {k : List Ld} {q : List Value} (hc : chkV l = 0) (h : LdsV w B A (nrmV l k 17) q) (i : Int) :
    (plc l i < l.length → ∃ A c, stF (srt l) q i = some (stV (fndV l i) (.slice A 17 c)) ∧ Lks w B A ((List.range 17).map fun (t : Nat) => atV k i (t : Int))) ∧ (¬ plc l i < l.length → stF (srt l) q i = none) := by
  obtain ⟨hq, hE⟩ := h
  have hlen : (nrmV l k 17).length = (srt l).length := nrm_len l k 17
  constructor
  · intro hi
    obtain ⟨x, hx, rfl⟩ := plc_found.1 hi
    rw [fnd_self (chkV_zero.1 hc).2.2 hx]
    obtain ⟨j, hj, hjx⟩ := List.getElem_of_mem (srt_mem.2 hx)
    have hjn : j < (nrmV l k 17).length := by omega
    have hjq : j < q.length := by omega
    obtain ⟨b, o, _, _, _, _, A', c', h1, _, _, h4⟩ := hE j hjn hjq
    have he : (nrmV l k 17)[j] = ⟨x.id, (List.range 17).map fun (t : Nat) => atV k x.id (t : Int)⟩ := by
      rw [nrm_get hjn hj, hjx]
    rw [he] at h1 h4
    refine ⟨A', c', ?_, h4⟩
    have hfind : ((srt l).zip q).find? (fun p => decide (p.1.id = x.id)) = some (x, q[j]) := by
      have hz : j < ((srt l).zip q).length := by rw [List.length_zip]; omega
      have hg : ((srt l).zip q)[j] = (x, q[j]) := by rw [List.getElem_zip, hjx]
      rw [List.find?_eq_some_iff_getElem]
      refine ⟨by simp, j, hz, hg, fun m hm => ?_⟩
      rw [List.getElem_zip]
      have := (List.pairwise_iff_getElem.1 (srt_apart hc) m j (by omega) hj hm).1
      rw [hjx] at this
      simpa using this
    unfold stF
    rw [hfind, h1]
    simp
  · intro hi
    unfold stF
    rw [List.find?_eq_none.2 fun p hp => ?_]
    · rfl
    · have hm := srt_mem.1 (List.of_mem_zip hp).1
      have := mt (fun e : p.1.id = i => plc_found.2 ⟨p.1, hm, e⟩) hi
      simpa using this
def StopsP (l : List Nd) (k : List Ld) (w : World) (e : Ending) (w' : World) : Prop := ∃ v, e = .returned v ∧ Stops w' l k v ∧ Below w.heap.size w w'
set_option maxRecDepth 100000 in
set_option maxHeartbeats 1600000 in
theorem stops_any (A A2 : Option Addr) (l : List Nd) (k : List Ld) (c c2 : Nat) (w : World) (hl : Nds w w.heap.size A l) (hk : Lds w w.heap.size A2 k) (hI : ∀ x ∈ k, -9223372036854775808 ≤ x.id ∧ x.id ≤ 9223372036854775807) (hkn : k.length ≤ maxLen) (hchk : chkV l = 0) :
    Calls Tryz.prog 76 #[.slice A l.length c, .slice A2 k.length c2] w (StopsP l k w) := by
  have HS := Lib.hid (sortR_any A l c w hl hchk)
  have HN := Lib.hid (fun (W : World) (j : Below w.heap.size w W) => normal_any A A2 l k c c2 16 W ((hl.below j).more j.size) ((hk.below j).more j.size) hI hkn (fun x hx => (wide_of hchk x hx).2))
  have hnr : nrmR l k 16 = nrmV l k 17 := by unfold nrmR; rw [if_pos ⟨hchk, by decide⟩]; rfl
  rw [hnr] at HN
  have HST := Lib.hid (fun (W : World) (B : Nat) (A : Option Addr) (q : List Value) (h : LdsV W B A (nrmV l k 17) q) (i : Int) => stF_all hchk h i)
  have HNX := Lib.hid (fun (q : List Value) (j : Nat) (h1 : j < (srt l).length) (h2 : j < q.length) => stF_next (srt_apart hchk) h1 h2)
  have HLN : Hid ((nrmV l k 17).length = (srt l).length) := Lib.hid (nrm_len l k 17)
  have HID : Hid (∀ j (h1 : j < (nrmV l k 17).length) (h2 : j < (srt l).length), (nrmV l k 17)[j].id = (srt l)[j].id ∧ (nrmV l k 17)[j].levels.length = 17) := Lib.hid fun j h1 h2 => by
    rw [nrm_get h1 h2]
    simp
  have HWD : Hid (∀ j (h : j < (srt l).length), -9223372036854775808 ≤ (srt l)[j].id ∧ (srt l)[j].id ≤ 9223372036854775807) := Lib.hid fun j h => (wide_srt hchk _ (List.getElem_mem h)).1
  have hsl := srt_le hchk
  have HF0 : Hid (∀ q : List Value, stF ((srt l).take 0) (q.take 0) = fun _ => none) := Lib.hid fun q => by funext i; simp [stF]
  have HFE : Hid (∀ (q : List Value) (j : Nat), (srt l).length ≤ j → q.length ≤ j → stF ((srt l).take j) (q.take j) = stF (srt l) q) := Lib.hid fun q j h1 h2 => by rw [List.take_of_length_le h1, List.take_of_length_le h2]
  have HZ : Hid (zS = .agg #[.int .i64 0, .string ByteArray.empty, .int .u32 0, .slice none 0 0]) := Lib.hid rfl
  unfold StopsP Stops
  generalize zS = ZS at *
  rw [HZ.out]
  generalize nrmV l k 17 = NV at *
  generalize srt l = S at *
  obtain ⟨ln, hln⟩ : ∃ n, n = l.length := ⟨_, rfl⟩
  obtain ⟨kn, hkn2⟩ : ∃ n, n = k.length := ⟨_, rfl⟩
  have HG : Hid (∀ (w' : World) (v : Value), (∃ b n f, v = .map (some b) ∧ VMap w' b n (.agg #[.int .i64 0, .string ByteArray.empty, .int .u32 0, .slice none 0 0]) f ∧ ∀ i : Int, (plc l i < l.length → ∃ A c, f i = some (stV (fndV l i) (.slice A 17 c)) ∧ Lks w' w'.heap.size A ((List.range 17).map fun (t : Nat) => atV k i (t : Int))) ∧ (¬ plc l i < l.length → f i = none)) → Stops w' l k v) := Lib.hid fun w' v h => h
  rw [← hln] at HS HN
  rw [← hkn2] at HN
  show Calls Tryz.prog 76 #[.slice A l.length c, .slice A2 k.length c2] w (fun e w' => ∃ v, e = .returned v ∧ Stops w' l k v ∧ Below w.heap.size w w')
  rw [← hln, ← hkn2]
  clear hl hk hI hkn hchk hnr hln hkn2 HZ ZS
  have hmm := @run_makeMap Tryz.prog
  have hml : maxLen ≤ 9223372036854775807 := by decide
  go_enter Tryz.func76, Tryz.ntmps76
  go_wp2_with fail
  refine (HS.out).mono ?_
  rintro e w1 ⟨A1, c1, rfl, ho1, hb1⟩
  obtain ⟨_, _, er, hr1⟩ := ho1.read
  injection er with e1 _ e2
  subst e1 e2
  have hbM := (Below.refl w1.heap.size w1).alloc (Nat.le_refl _) (.map #[] 0)
  have HM1 := Lib.hid (VMap.made w1 (.agg #[.int .i64 0, .string ByteArray.empty, .int .u32 0, .slice none 0 0]))
  have HB1 := Lib.hid (hb1.trans (hbM.mono hb1.size))
  have HR1 := Lib.hid ((hr1.below hbM).more hbM.size)
  obtain ⟨b, hb⟩ : ∃ b, b = w1.heap.size := ⟨_, rfl⟩
  have HBW : Hid (w.heap.size ≤ b) := Lib.hid (by rw [hb]; exact hb1.size)
  rw [← hb] at HM1
  clear hb1 HS ho1 hr1 hbM
  go_wp2_with fail
  rw [← hb]
  clear hb
  refine (HN.out _ HB1.out).mono ?_
  rintro e w2 ⟨v2, rfl, ho2, hb2⟩
  obtain ⟨A4, c4, rfl, _, _, hr2⟩ := ho2.read
  obtain ⟨q, hq⟩ := LdsV.of hr2
  have HM2 := Lib.hid (HM1.out.below hb2)
  have HB2 := Lib.hid (HB1.out.trans (hb2.mono HB1.out.size))
  have HR2 := Lib.hid ((HR1.out.below hb2).more hb2.size)
  have HQL := Lib.hid hq.1
  have HQ := Lib.hid hq.2
  have HSA := Lib.hid (HST.out w2 w2.heap.size A4 q hq)
  have hNX := Lib.hid (fun j h1 h2 i => HNX.out q j h1 h2 i)
  have hF0 := Lib.hid (HF0.out q)
  have hFE := Lib.hid (HFE.out q)
  obtain ⟨N, hN⟩ : ∃ N, N = NV.length := ⟨_, rfl⟩
  have HNN : Hid (N = NV.length) := Lib.hid hN
  have HNS : Hid (N = S.length) := Lib.hid (hN.trans HLN.out)
  obtain ⟨NS, hNS⟩ : ∃ N, N = S.length := ⟨_, rfl⟩
  have hNe : NS = N := hNS.trans HNS.out.symm
  subst hNe
  rw [← hN]
  rw [← hNS] at hsl ⊢
  clear hb2 HN HST HNX HF0 HFE HM1 HB1 HR1 ho2 hr2 hq hN hNS
  go_wp2_with fail
  go_loopw [16] (fun vj wr => ∃ j : Nat, vj = .int .i64 (j : Int) ∧ j ≤ NS ∧ Below w.heap.size w wr ∧ w2.grownBy wr (some b) ∧ VMap wr b j (.agg #[.int .i64 0, .string ByteArray.empty, .int .u32 0, .slice none 0 0]) (stF (S.take j) (q.take j))) (fun vj _ => NS - (intOf vj).toNat)
  case atStart => exact ⟨0, rfl, by omega, HB2.out, grownBy_refl _ _, by rw [hF0.out]; exact HM2.out⟩
  case round =>
    clear HB2
    obtain ⟨j, rfl, hj, hB, hgr, hM⟩ := hrel
    by_cases hlt : j < NS
    · have j1 : j < NV.length := by rw [← HNN.out]; exact hlt
      have j2 : j < S.length := by rw [← HNS.out]; exact hlt
      have j3 : j < q.length := by rw [HQL.out]; exact j1
      obtain ⟨b2, o2, e2, -, f1, f2, A', c', hq, -⟩ := HQ.out j j1 j3
      obtain ⟨hid, hlv⟩ := HID.out j j1 j2
      rw [hq] at f2
      rw [hid] at f1
      rw [hlv] at f2 hq
      subst e2
      obtain ⟨b3, o3, e3, -, g1, g2, g3⟩ := HR2.out.at_ j2
      subst e3
      have hyi := HWD.out j j2
      have HN1 := Lib.hid (hNX.out j j2 j3)
      rw [hq] at HN1
      have hck := CK.vmap HM2.out hgr
      replace f1 := hck _ _ f1
      replace f2 := hck _ _ f2
      replace g1 := hck _ _ g1
      replace g2 := hck _ _ g2
      replace g3 := hck _ _ g3
      generalize hF' : stF (S.take (j + 1)) (q.take (j + 1)) = F' at *
      have HFP := Lib.hid hF'
      clear hF' hid hlv hq hck
      generalize stF (S.take j) (q.take j) = F at *
      generalize S[j] = y at *
      obtain ⟨yi, yk, yw⟩ := y
      simp only at hyi f1 f2 g1 g2 g3 HN1
      have i0 : (0 : Int) ≤ (j : Int) := by omega
      have i1 : (j : Int) < (NS : Int) := by omega
      have hX := Has.new wr 56 #[.int .i64 yi, .slice A' 17 c']
      have hbX := (Below.refl wr.heap.size wr).alloc (Nat.le_refl _) (.cells #[.int .i64 yi, .slice A' 17 c'] 56)
      have hMX := Lib.hid ((hM.below hbX).below ((Below.refl _ _).drew))
      have HBX := Lib.hid ((hB.trans (hbX.mono hB.size)).drew)
      have hgX := Lib.hid (grownBy_below (grownBy_below hgr hbX) (Below.refl _ _).drew)
      replace g1 := hbX.cell (p := ⟨b3, o3 + j * 3, none⟩) (World.block_lt_of_cell? wr _ g1) |>.trans g1
      replace g2 := hbX.cell (p := ⟨b3, o3 + j * 3 + 1, none⟩) (World.block_lt_of_cell? wr _ g2) |>.trans g2
      replace g3 := hbX.cell (p := ⟨b3, o3 + j * 3 + 2, none⟩) (World.block_lt_of_cell? wr _ g3) |>.trans g3
      obtain ⟨W1, hW1⟩ : ∃ W1 : World, W1 = wr.alloc (.cells #[.int .i64 yi, .slice A' 17 c'] 56) := ⟨_, rfl⟩
      obtain ⟨X, hXe⟩ : ∃ X, X = wr.heap.size := ⟨_, rfl⟩
      clear hbX hM hB hgr j1 j2 j3
      go_upto_region 6 with fail
      rw [← hW1] at hX hMX HBX hgX g1 g2 g3 ⊢
      rw [← hXe] at hX ⊢
      have x0 := hX.cell 0
      have x1 := hX.cell 1
      clear hW1 hXe hX f1 f2
      go_still_tail 10, (by kernel_rfl)
      change wpList _ _ _ _ _ W1.drew
      refine wpList_vput _ rfl _ _ _ 112 rfl 115 Tryz.underlying112 b j _ F hMX.out rfl (by unfold maxLen; omega) yi hyi (.agg #[.int .i64 yi, .string yk, .int .u32 (yw : Int), .slice A' 17 c']) rfl rfl ?_
      intro w5 hm5 hgr5
      have HM5 := Lib.hid hm5
      have HB5 := Lib.hid (HBX.out.grown hgr5 HBX.out.size (fun jj e => (by have := Option.some.inj e; have := HBW.out; omega)))
      have HG5 := Lib.hid (grownBy_trans hgX.out hgr5)
      clear hm5 hgr5
      go_wp2_with fail
      exact ⟨⟨j + 1, by go_num, hlt, HB5.out, HG5.out, by rw [HFP.out]; exact HM5.out.congr HN1.out⟩, by simp [intOf]; omega⟩
    · have hjn : S.length ≤ j := by rw [← HNS.out]; omega
      rw [hFE.out j hjn (by rw [HQL.out, ← HNN.out]; omega)] at hM
      have hck := CK.vmap HM2.out hgr
      have HFIN := Lib.hid (HG.out wr (.map (some b)) ⟨b, j, _, rfl, hM, fun i => ⟨fun hi => (by
        obtain ⟨A5, c5, h5, h6⟩ := (HSA.out i).1 hi
        refine ⟨A5, c5, h5, fun hne => ?_⟩
        obtain ⟨b6, o6, e6, hb6, hc6⟩ := h6 hne
        exact ⟨b6, o6, e6, Nat.lt_of_lt_of_le hb6 hgr.size, fun t ht => ⟨hck _ _ (hc6 t ht).1, hck _ _ (hc6 t ht).2⟩⟩), (HSA.out i).2⟩⟩)
      have HBF := Lib.hid hB
      clear hM hB hgr hck HSA HQ
      go_wp2_with fail
      go_ret
      exact ⟨_, rfl, HFIN.out, HBF.out⟩
end
section
open Go.RowKit


section
variable {l : List Nd} {k : List Ld} {q : ByteArray} {r : Bool}
theorem rt_len : ∀ (x : Nd) (t : Nat), (rtW l k q r x t).1.length ≤ dsV r l x :=
  rt_ind (P := fun x t => (rtW l k q r x t).1.length ≤ dsV r l x) (fun x => by rw [rt_zero]; exact Nat.zero_le _) (fun x t e i => by rw [rt_down e]; exact i) (fun x t y e i => by
    rw [rt_hop e]
    have := nxO_ds e
    simp only [List.length_cons]
    omega)
theorem ds_le (r : Bool) (l : List Nd) (x : Nd) : dsV r l x ≤ l.length := List.length_filter_le _ _
/-- What the program asks at one step. -/
theorem nx_app {y : Nd} {t : Nat} (hs : kl q y.key = !r) {i : Int} (hi : i = lkS (!kl q y.key) (atV k y.id (t : Int))) :
    (plc l i < l.length → appB y (fndV l i) q = true → nxO l k q r y t = some (fndV l i)) ∧ (plc l i < l.length → appB y (fndV l i) q = false → nxO l k q r y t = none) ∧ (¬ plc l i < l.length → nxO l k q r y t = none) := by
  have hr : (!kl q y.key) = r := by rw [hs]; simp
  rw [hr] at hi
  subst hi
  have ha : ∀ z, appB y z q = (far r y z && (kl q z.key == !r)) := fun z => by unfold appB; rw [hr, hs]
  refine ⟨fun h1 h2 => ?_, fun h1 h2 => ?_, fun h1 => ?_⟩
  · rw [ha] at h2
    simp only [Bool.and_eq_true, beq_iff_eq] at h2
    unfold nxO
    rw [if_pos ⟨h1, h2.1, h2.2⟩]
  · rw [ha] at h2
    unfold nxO
    rw [if_neg]
    rintro ⟨_, h3, h4⟩
    rw [h3, h4] at h2
    simp at h2
  · unfold nxO
    rw [if_neg fun e => h1 e.1]
end
/-- The distance of the node whose number is in a cell. -/
def dsC (r : Bool) (l : List Nd) : Option Value → Nat
  | some (.int _ i) => dsV r l (fndV l i)
  | _ => 0
theorem set4 {w : World} {X : Nat} {t : TypeId} {a0 a1 a2 a3 : Value} (h : Has w X t #[a0, a1, a2, a3]) (b0 b1 b2 b3 : Value) : Has ((((w.setCell ⟨X, 0, none⟩ b0).setCell ⟨X, 1, none⟩ b1).setCell ⟨X, 2, none⟩ b2).setCell ⟨X, 3, none⟩ b3) X t #[b0, b1, b2, b3] :=
  (((h.set_ 0 b0).set_ 1 b1).set_ 2 b2).set_ 3 b3
theorem heap4 (w : World) (X : Nat) (b0 b1 b2 b3 : Value) (i : Nat) (hi : i ≠ X) : ((((w.setCell ⟨X, 0, none⟩ b0).setCell ⟨X, 1, none⟩ b1).setCell ⟨X, 2, none⟩ b2).setCell ⟨X, 3, none⟩ b3).heap[i]? = w.heap[i]? := by
  rw [Below.heap_setCell _ ⟨X, 3, none⟩ _ i hi, Below.heap_setCell _ ⟨X, 2, none⟩ _ i hi, Below.heap_setCell _ ⟨X, 1, none⟩ _ i hi, Below.heap_setCell _ ⟨X, 0, none⟩ _ i hi]
theorem size4 (w : World) (X : Nat) (b0 b1 b2 b3 : Value) : ((((w.setCell ⟨X, 0, none⟩ b0).setCell ⟨X, 1, none⟩ b1).setCell ⟨X, 2, none⟩ b2).setCell ⟨X, 3, none⟩ b3).heap.size = w.heap.size := by simp [World.setCell]
def HpsP (R : List Hp) (w : World) (e : Ending) (w' : World) : Prop := ∃ v, e = .returned v ∧ OwnH w' w.heap.size v R ∧ Below w.heap.size w w'
set_option maxRecDepth 100000 in
set_option maxHeartbeats 3200000 in
theorem route_any (A : Option Addr) (l : List Nd) (k : List Ld) (q : ByteArray) (x : Nd) (c : Nat) (v : Value) (w : World) (hc : chkV l = 0) (hx : x ∈ l) (hS : Stops w l k v) (hA : Lks w w.heap.size A ((List.range 17).map fun (t : Nat) => atV k x.id (t : Int)))
    (hw : ∀ (i : Int) (t : Nat), I64 (atV k i (t : Int)).left ∧ I64 (atV k i (t : Int)).right) :
    Calls Tryz.prog 77 #[v, stV x (.slice A 17 c), .string q] w (HpsP (rteW l k q x) w) := by
  obtain ⟨mb, mn, f, rfl, hM, hf⟩ := hS
  obtain ⟨inf, hif, hif1, hif2, hif3⟩ := infoH_parts
  have hll : l.length ≤ 64 := (chkV_zero.1 hc).1
  generalize hr : (!kl q x.key) = r
  have hsd : kl q x.key = !r := by rw [← hr]; simp
  have HRT : Hid (rteW l k q x = (rtW l k q r x 17).1 ++ lstO l k q r (rtW l k q r x 17).2) := Lib.hid (by unfold rteW; rw [hr])
  have HAH := Lib.hid (fun (W : World) (y : Nd) (A : Option Addr) (c t : Nat) (ht : t < 17) (hP : Lks W W.heap.size A ((List.range 17).map fun (t : Nat) => atV k y.id (t : Int))) => (by
    have := ahead_any y A _ c t q W hP (by simpa using ht)
    simp only [List.length_map, List.length_range, List.getElem_map, List.getElem_range] at this
    exact this : Calls Tryz.prog 88 #[stV y (.slice A 17 c), .string q, .int .i64 (t : Int)] W fun e w' => e = .returned (.int .i64 (lkS (!kl q y.key) (atV k y.id (t : Int)))) ∧ Below W.heap.size W w'))
  have HAP := Lib.hid (fun (W : World) (y z : Nd) (A1 A2 : Option Addr) (c1 c2 : Nat) => approaches_any y z (.slice A1 17 c1) (.slice A2 17 c2) q W ⟨_, _, _, rfl⟩ ⟨_, _, _, rfl⟩)
  have HLK := Lib.hid (fun (W : World) (j : Below w.heap.size w W) (i : Int) (h1 : -9223372036854775808 ≤ i) (h2 : i ≤ 9223372036854775807) => (hM.below j).look_ok Tryz.underlying112 (zeroSt W) h1 h2)
  have HFF := Lib.hid hf
  have HFI := Lib.hid (fun (i : Int) (h : plc l i < l.length) => fnd_in h)
  have HNX := Lib.hid (fun (y : Nd) (t : Nat) (hs : kl q y.key = !r) (i : Int) (hi : i = lkS (!kl q y.key) (atV k y.id (t : Int))) => nx_app (l := l) (k := k) hs hi)
  have HW := Lib.hid (fun (b : Bool) (i : Int) (t : Nat) => (by cases b; exact (hw i t).1; exact (hw i t).2 : I64 (lkS b (atV k i (t : Int)))))
  have HDS := Lib.hid (fun (y : Nd) (i : Int) (h : y.id = i) (hy : y ∈ l) => (by
    subst h
    show dsV r l (fndV l y.id) = dsV r l y
    rw [fnd_self (chkV_zero.1 hc).2.2 hy] : dsC r l (some (.int .i64 i)) = dsV r l y))
  have HLN := Lib.hid (fun (y : Nd) (t : Nat) => rt_len (l := l) (k := k) (q := q) (r := r) y t)
  have HD1 := Lib.hid (fun (y z : Nd) (t : Nat) (e : nxO l k q r y t = some z) => nxO_ds e)
  have HR0 := Lib.hid (fun (y : Nd) => rt_zero (l := l) (k := k) (q := q) (r := r) y)
  have HR1 := Lib.hid (fun (y : Nd) (t : Nat) (e : nxO l k q r y t = none) => rt_down e)
  have HR2 := Lib.hid (fun (y z : Nd) (t : Nat) (e : nxO l k q r y t = some z) => rt_hop e)
  have HSO := Lib.hid (fun (y z : Nd) (t : Nat) (e : nxO l k q r y t = some z) => nxO_some e)
  have HDL := Lib.hid (fun (y : Nd) => Nat.le_trans (ds_le r l y) hll)
  rw [HRT.out]
  clear hf hM hc hw hr HRT hll
  have hX0 := Has.new w 115 #[.int .i64 x.id, .string x.key, .int .u32 (x.word : Int), .slice A 17 c]
  have hb0 := (Below.refl w.heap.size w).alloc (Nat.le_refl _) (.cells #[.int .i64 x.id, .string x.key, .int .u32 (x.word : Int), .slice A 17 c] 115)
  have HX0 := Lib.hid hX0
  have HB0 := Lib.hid hb0
  have HA0 := Lib.hid ((hA.below hb0).more hb0.size)
  have HSD := Lib.hid hsd
  have HXL := Lib.hid hx
  obtain ⟨X, hXe⟩ : ∃ X, X = w.heap.size := ⟨_, rfl⟩
  rw [← hXe] at HX0
  have HXE := Lib.hid hXe
  obtain ⟨Tt, hTt⟩ : ∃ T, T = rtW l k q r x 17 := ⟨_, rfl⟩
  have HTT := Lib.hid hTt
  rw [← hTt]
  clear hX0 hb0 hA hsd hx hTt
  show Calls Tryz.prog 77 #[.map (some mb), .agg #[.int .i64 x.id, .string x.key, .int .u32 (x.word : Int), .slice A 17 c], .string q] w _
  unfold stV at HAH HAP
  go_enter Tryz.func77, Tryz.ntmps77
  go_wp2_with fail
  rw [← hXe]
  clear hXe
  go_step3
  go_wp2_with fail
  go_step3
  go_wp2_with fail
  go_loopw [7, 8] (fun vo vt wr => ∃ (v1 : Value) (L : Nat) (y : Nd) (A1 : Option Addr) (c1 : Nat) (hs : List Hp), v1 = vo ∧ vt = .int .i64 ((L : Int) - 1) ∧ L ≤ 17 ∧ OwnH wr (X + 1) v1 hs ∧ Has wr X 115 #[.int .i64 y.id, .string y.key, .int .u32 (y.word : Int), .slice A1 17 c1] ∧ Lks wr wr.heap.size A1 ((List.range 17).map fun (t : Nat) => atV k y.id (t : Int)) ∧ Below w.heap.size w wr ∧ y ∈ l ∧ Hid (kl q y.key = !r ∧ Tt = (hs ++ (rtW l k q r y L).1, (rtW l k q r y L).2) ∧ hs.length + dsV r l y ≤ 64)) (fun _ vt _ => (intOf vt + 1).toNat)
  case atStart => exact ⟨_, 17, x, A, c, [], rfl, rfl, by omega, OwnH.nil _ _, HX0.out, HA0.out, HB0.out, HXL.out, Lib.hid ⟨HSD.out, by rw [HTT.out]; rfl, by have := HDL.out x; simpa using this⟩⟩
  case round =>
    clear HX0 HA0 HB0 HXL HTT HSD
    obtain ⟨v1, L, y, A1, c1, hs, rfl, rfl, hL, ho, hX, hA, hB, hy, hI⟩ := hrel
    cases L with
    | zero =>
      have t0 : (((0 : Nat) : Int) - 1) = -1 := rfl
      rw [t0]
      obtain ⟨hsd, hTT, hbd⟩ := hI.out
      have HTT : Hid (Tt = (hs, y)) := Lib.hid (by rw [hTT, HR0.out, List.append_nil])
      obtain ⟨i0, hi0⟩ : ∃ i, i = (atV k y.id 0).left := ⟨_, rfl⟩
      have hI64 := HW.out false y.id 0
      have HLO : Hid (lstO l k q r y = if r = false ∧ plc l i0 < l.length ∧ kl q (fndV l i0).key = false then [⟨y.id, (fndV l i0).id, 0⟩] else []) := Lib.hid (by rw [hi0]; rfl)
      obtain ⟨b6, o6, rfl, hb6, g1, -⟩ := hA.at_ (i := 0) (by simp)
      have hg0 : ((List.range 17).map fun (t : Nat) => atV k y.id (t : Int))[0]'(by simp) = atV k y.id 0 := by simp
      rw [hg0, ← hi0] at g1
      replace hI64 : I64 i0 := by rw [hi0]; exact hI64
      have hlook := HLK.out wr hB i0 hI64.1 hI64.2
      obtain ⟨zi, zk, zw, Az, nz, cz, fb, hlk, hfb1, hfb2⟩ : ∃ (zi : Int) (zk : ByteArray) (zw : Nat) (Az : Option Addr) (nz cz : Nat) (fb : Bool), (Instr.lookup 112 (.map (some mb)) (.int .i64 i0) true).run Tryz.prog wr = .ok (.tuple #[.agg #[.int .i64 zi, .string zk, .int .u32 (zw : Int), .slice Az nz cz], .bool fb]) wr ∧ (fb = true → plc l i0 < l.length ∧ fndV l i0 = ⟨zi, zk, zw⟩) ∧ (fb = false → ¬ plc l i0 < l.length) := by
        by_cases hp : plc l i0 < l.length
        · obtain ⟨A2, c2, hfi, -⟩ := (HFF.out i0).1 hp
          rw [hfi] at hlook
          exact ⟨_, _, _, A2, 17, c2, true, hlook, (fun _ => ⟨hp, rfl⟩), (fun e => (by cases e))⟩
        · have hfi := (HFF.out i0).2 hp
          rw [hfi] at hlook
          exact ⟨0, ByteArray.empty, 0, none, 0, 0, false, hlook, (fun e => (by cases e)), (fun _ => hp)⟩
      obtain ⟨yi, yk, yw⟩ := y
      simp only at hX hsd HLO HTT
      have x3 := hX.cell 3
      have g1' : wr.cell? ⟨b6, o6, none⟩ = some (.int .i64 i0) := g1
      have hbY := (Below.refl wr.heap.size wr).alloc (Nat.le_refl _) (.cells #[.int .i64 zi, .string zk, .int .u32 (zw : Int), .slice Az nz cz] 115)
      have hY := Has.new wr 115 #[.int .i64 zi, .string zk, .int .u32 (zw : Int), .slice Az nz cz]
      have y0 := hY.cell 0
      have y1 := hY.cell 1
      have hXY := hX.below hbY
      have z0 := hXY.cell 0
      have z1 := hXY.cell 1
      have HOY := Lib.hid (ho.below hbY)
      have HBY := Lib.hid (hB.trans (hbY.mono hB.size))
      have hl3 : Op.bytesLess q.toList yk.toList = kl q yk := rfl
      have hl7 : (Op.bytesLess zk.toList q.toList || zk.toList == q.toList) = !kl q zk := by rw [← gtr_kl zk q, Bool.not_not]
      have HE : Hid (∀ (v : Value) (w' : World) (R : List Hp), OwnH w' (X + 1) v R → Below w.heap.size w w' → R = Tt.1 ++ lstO l k q r Tt.2 → HpsP (Tt.1 ++ lstO l k q r Tt.2) w (.returned v) w') := Lib.hid fun v w' R h1 h2 h3 => ⟨v, rfl, by rw [← h3]; exact h1.low (by have := HXE.out; omega), h2⟩
      have HLX : Hid (Tt.1 ++ lstO l k q r Tt.2 = hs ++ if r = false ∧ plc l i0 < l.length ∧ kl q (fndV l i0).key = false then [⟨yi, (fndV l i0).id, 0⟩] else []) := Lib.hid (by rw [HTT.out]; simp only; rw [HLO.out])
      generalize HpsP (Tt.1 ++ lstO l k q r Tt.2) w = POST at *
      have hX1 : X < wr.heap.size := hX.lt
      have hln : hs.length < 1000000 := by omega
      have hvl : ∀ kk, v1.ownBlock = some kk → kk < wr.heap.size := fun kk e => (ho.lt kk e).2
      obtain ⟨A5, c5, hv5⟩ := ho.shape
      subst hv5
      have HXL : Hid (X + 1 ≤ (wr.alloc (.cells #[.int .i64 zi, .string zk, .int .u32 (zw : Int), .slice Az nz cz] 115)).heap.size) := Lib.hid (by rw [World.size_alloc]; omega)
      clear hX hXY hbY hY hlook hA g1 hg0 hi0 hI hTT hbd HAH HAP HLK HFF HFI HNX HW HDS HLN HD1 HR0 HR1 HR2 HSO HDL ho hB hy HTT HLO hI64 hvl hb6
      cases hk1 : kl q yk
      · rw [hk1] at hl3
        have hr1 : r = true := by rw [hk1] at hsd; simpa using hsd
        have HF := Lib.hid (HE.out _ _ hs HOY.out HBY.out (by rw [HLX.out, if_neg (by rw [hr1]; simp), List.append_nil]))
        clear hl7 hsd hr1 hk1 HE HLX HOY HBY hfb1 hfb2
        go_wp2_with fail
        exact HF.out
      · rw [hk1] at hl3
        have hr1 : r = false := by rw [hk1] at hsd; simpa using hsd
        cases fb
        · have HF := Lib.hid (HE.out _ _ hs HOY.out HBY.out (by rw [HLX.out, if_neg (fun e => hfb2 rfl e.2.1), List.append_nil]))
          clear hl7 hsd hr1 hk1 HE HLX HOY HBY hfb1 hfb2
          go_wp2_with fail
          exact HF.out
        · obtain ⟨hp, hz⟩ := hfb1 rfl
          cases hk2 : kl q zk
          · rw [hk2] at hl7
            have HF := Lib.hid (fun (v : Value) (w' : World) (h1 : OwnH w' (X + 1) v (hs ++ [⟨yi, zi, 0⟩])) (h2 : Below w.heap.size w w') => HE.out v w' _ h1 h2 (by rw [HLX.out, hz, if_pos ⟨hr1, hp, hk2⟩]))
            clear hsd hr1 hk1 hk2 HE HLX hfb1 hfb2 hz hp
            go_wp2_with (at_builtin; refine wpList_pushH rfl _ _ 63 rfl (X + 1) inf Tryz.underlying63 hif hif1 hif2 hif3 (.slice A5 hs.length c5) hs (wr.alloc (.cells #[.int .i64 zi, .string zk, .int .u32 (zw : Int), .slice Az nz cz] 115)) ⟨yi, zi, 0⟩ rfl HOY.out (by rw [World.size_alloc]; rfl) hln HXL.out ?_; intro v9 w9 ho9 hb9 _ _; have HX9 := Lib.hid (HF.out v9 w9 ho9 (HBY.out.trans (hb9.mono (by have := HXE.out; omega)))); clear ho9 hb9)
            exact HX9.out
          · rw [hk2] at hl7
            have HF := Lib.hid (HE.out _ _ hs HOY.out HBY.out (by rw [HLX.out, hz, if_neg (by rintro ⟨_, _, h3⟩; rw [hk2] at h3; cases h3), List.append_nil]))
            clear hsd hr1 hk1 hk2 HE HLX HOY HBY hfb1 hfb2 hz hp
            go_wp2_with fail
            exact HF.out
    | succ t =>
      have t0 : (((t + 1 : Nat) : Int) - 1) = (t : Int) := by omega
      rw [t0]
      have t1 : (0 : Int) ≤ (t : Int) := by omega
      have HO1 := Lib.hid ho
      have HX1 := Lib.hid hX
      have HA1 := Lib.hid hA
      have HB1 := Lib.hid hB
      have HY1 := Lib.hid hy
      clear ho hX hA hB hy
      go_wp2_with fail
      go_loopw [7] (fun vo wz => ∃ (v1 : Value) (y : Nd) (A1 : Option Addr) (c1 : Nat) (hs : List Hp), v1 = vo ∧ OwnH wz (X + 1) v1 hs ∧ Has wz X 115 #[.int .i64 y.id, .string y.key, .int .u32 (y.word : Int), .slice A1 17 c1] ∧ Lks wz wz.heap.size A1 ((List.range 17).map fun (t : Nat) => atV k y.id (t : Int)) ∧ Below w.heap.size w wz ∧ y ∈ l ∧ Hid (kl q y.key = !r ∧ Tt = (hs ++ (rtW l k q r y (t + 1)).1, (rtW l k q r y (t + 1)).2) ∧ hs.length + dsV r l y ≤ 64)) (fun _ wz => dsC r l (wz.cell? ⟨X, 0, none⟩))
      case atStart => exact ⟨_, y, A1, c1, hs, rfl, HO1.out, HX1.out, HA1.out, HB1.out, HY1.out, hI⟩
      case round =>
        clear HO1 HX1 HA1 HB1 HY1 hI
        obtain ⟨v1, y, A1, c1, hs, rfl, ho, hX, hA, hB, hy, hI⟩ := hrel
        obtain ⟨hsd, hTT, hbd⟩ := hI.out
        have HTT := Lib.hid hTT
        have HSDY := Lib.hid hsd
        have HBD := Lib.hid hbd
        have HC := Lib.hid (HAH.out wr y A1 c1 t (by omega) hA)
        obtain ⟨ii, hii⟩ : ∃ ii, ii = lkS (!kl q y.key) (atV k y.id (t : Int)) := ⟨_, rfl⟩
        have hI64 := HW.out (!kl q y.key) y.id t
        rw [← hii] at HC hI64
        have HNY := Lib.hid (HNX.out y t hsd ii hii)
        have HR1Y := Lib.hid (HR1.out y t)
        have HR2Y := Lib.hid (fun z => HR2.out y z t)
        have HD1Y := Lib.hid (fun z => HD1.out y z t)
        have HSOY := Lib.hid (fun z => HSO.out y z t)
        have HMY := Lib.hid (HDS.out y y.id rfl hy)
        have HAPY := Lib.hid (fun W z A2 c2 => HAP.out W y z A1 A2 c1 c2)
        have HMEA : Hid (dsC r l (wr.cell? ⟨X, 0, none⟩) = dsV r l y) := Lib.hid (by rw [hX.cell 0]; exact HMY.out)
        obtain ⟨yi, yk, yw⟩ := y
        simp only at HC hX hy HAPY
        have x0 := hX.cell 0
        have x1 := hX.cell 1
        have x2 := hX.cell 2
        have x3 := hX.cell 3
        have HO1 := Lib.hid ho
        have HX1 := Lib.hid hX
        have HA1 := Lib.hid hA
        have HB1 := Lib.hid hB
        have HY1 := Lib.hid hy
        have hln : hs.length < 1000000 := by omega
        have HVL := Lib.hid (fun (kk : Nat) (e : v1.ownBlock = some kk) => ho.lt kk e)
        obtain ⟨A5, c5, hv5⟩ := ho.shape
        subst hv5
        have et : (((t + 1 : Nat) : Int) - 1) = (t : Int) := by omega
        clear ho hX hA hB hy hI hsd hTT hbd hii HMY
        go_wp2_with fail
        refine (HC.out).mono ?_
        rintro e w3 ⟨rfl, hb3⟩
        have HB3 := Lib.hid (HB1.out.trans (hb3.mono HB1.out.size))
        have hX3 := HX1.out.below hb3
        have HO3 := Lib.hid (HO1.out.below hb3)
        have hlook := HLK.out w3 HB3.out ii hI64.1 hI64.2
        have hsz3 : wr.heap.size ≤ w3.heap.size := hb3.size
        have HA3 := Lib.hid ((HA1.out.below hb3).more hb3.size)
        clear hb3 HC HO1 HA1 HB1 x0 x1 x2 x3
        by_cases hp : plc l ii < l.length
        · obtain ⟨A2, c2, hfi, hA2⟩ := (HFF.out ii).1 hp
          have hzl := HFI.out ii hp
          rw [hfi] at hlook
          have HN1 := Lib.hid (HNY.out.1 hp)
          have HN2 := Lib.hid (HNY.out.2.1 hp)
          have HAPZ := Lib.hid (fun W => HAPY.out W (fndV l ii) A2 c2)
          have HZL := Lib.hid hzl
          generalize fndV l ii = z at *
          obtain ⟨zi, zk, zw⟩ := z
          have hlook2 : (Instr.lookup 112 (.map (some mb)) (.int .i64 ii) true).run Tryz.prog w3 = .ok (.tuple #[.agg #[.int .i64 zi, .string zk, .int .u32 (zw : Int), .slice A2 17 c2], .bool true]) w3 := hlook
          simp only at HAPZ
          have HA2 := Lib.hid hA2
          have hbY := (Below.refl w3.heap.size w3).alloc (Nat.le_refl _) (.cells #[.int .i64 zi, .string zk, .int .u32 (zw : Int), .slice A2 17 c2] 115)
          have hY := Has.new w3 115 #[.int .i64 zi, .string zk, .int .u32 (zw : Int), .slice A2 17 c2]
          have hXY := hX3.below hbY
          have x0 := hXY.cell 0
          have x1 := hXY.cell 1
          have x2 := hXY.cell 2
          have x3 := hXY.cell 3
          have y0 := hY.cell 0
          have y1 := hY.cell 1
          have y2 := hY.cell 2
          have y3 := hY.cell 3
          have HXY := Lib.hid hXY
          have HYY := Lib.hid hY
          have HBY := Lib.hid (HB3.out.trans (hbY.mono HB3.out.size))
          have HOY := Lib.hid (HO3.out.below hbY)
          have HAY := Lib.hid ((HA3.out.below hbY).more hbY.size)
          clear hlook hfi hA2 hzl hX3 hbY hY hXY HB3 HO3 HNY HFI
          go_wp2_with fail
          refine (HAPZ.out _).mono ?_
          rintro e w5 ⟨rfl, hb5⟩
          have HX5 := Lib.hid (HXY.out.below hb5)
          have HY5 := Lib.hid (HYY.out.below hb5)
          have HB5 := Lib.hid (HBY.out.trans (hb5.mono HBY.out.size))
          have HO5 := Lib.hid (HOY.out.below hb5)
          have HA5 := Lib.hid ((HAY.out.below hb5).more hb5.size)
          have hsz5 : w3.heap.size < w5.heap.size := HY5.out.lt
          clear hb5 HXY HYY HBY HOY HAY HAPZ hlook2 x0 x1 x2 x3 y0 y1 y2 y3
          obtain ⟨Yb, hYb⟩ : ∃ Yb, Yb = w3.heap.size := ⟨_, rfl⟩
          rw [← hYb] at HY5 hsz5 ⊢
          have HVX : Hid ((Value.slice A5 hs.length c5).ownBlock ≠ some X) := Lib.hid (fun e => by have := HVL.out _ e; omega)
          have HVY : Hid ((Value.slice A5 hs.length c5).ownBlock ≠ some Yb) := Lib.hid (fun e => by have := HVL.out _ e; omega)
          clear hYb hsz3
          cases hap : appB ⟨yi, yk, yw⟩ ⟨zi, zk, zw⟩ q
          · have hnx := HN2.out hap
            have HT2 := Lib.hid (HTT.out.trans (by rw [HR1Y.out hnx] : _ = (hs ++ (rtW l k q r ⟨yi, yk, yw⟩ t).1, (rtW l k q r ⟨yi, yk, yw⟩ t).2)))
            have e1 : IntKind.i64.wrap ((t : Int) - 1) = (t : Int) - 1 := IntWalk.i64_in _ (by omega)
            clear hnx hap HN1 HN2 HTT HR1Y HR2Y HD1Y HSOY
            go_wp2_with fail
            exact ⟨⟨_, t, ⟨yi, yk, yw⟩, A1, c1, hs, rfl, by go_num, by omega, HO5.out, HX5.out, HA5.out, HB5.out, HY1.out, Lib.hid ⟨HSDY.out, HT2.out, HBD.out⟩⟩, by simp [intOf]⟩
          · have hnx := HN1.out hap
            have hds := HD1Y.out _ hnx
            have hz5 := HSOY.out _ hnx
            have HT2 := Lib.hid (HTT.out.trans (by rw [HR2Y.out _ hnx] : _ = (hs ++ (⟨yi, zi, (t : Int)⟩ :: (rtW l k q r ⟨zi, zk, zw⟩ (t + 1)).1), (rtW l k q r ⟨zi, zk, zw⟩ (t + 1)).2)))
            have HDZ := Lib.hid hds
            have HZ5 := Lib.hid hz5
            have x0 := HX5.out.cell 0
            have y0 := HY5.out.cell 0
            clear hnx hap HN1 HN2 HTT HR1Y HR2Y HD1Y HSOY hds hz5
            go_wp2_with (at_builtin; refine wpList_pushH rfl _ _ 63 rfl (X + 1) inf Tryz.underlying63 hif hif1 hif2 hif3 (.slice A5 hs.length c5) hs w5 ⟨yi, zi, (t : Int)⟩ rfl HO5.out rfl hln (by have := HX5.out.lt; omega) ?_; intro v9 w9 ho9 hb9 hkp hat; have hX9 := (hkp X HX5.out.lt HVX.out).trans HX5.out; have hY9 := (hkp Yb hsz5 HVY.out).trans HY5.out; have HX9 : Hid (Has w9 X 115 _) := Lib.hid hX9; have HY9 : Hid (Has w9 Yb 115 _) := Lib.hid hY9; have HO9 := Lib.hid ho9; have HB9 := Lib.hid (HB5.out.trans (hb9.mono (by have := HXE.out; omega))); have y0 := HY9.out.cell 0; have y1 := HY9.out.cell 1; have y2 := HY9.out.cell 2; have y3 := HY9.out.cell 3; have x0 := HX9.out.cell 0; have x1 := HX9.out.cell 1; have x2 := HX9.out.cell 2; have x3 := HX9.out.cell 3; have zf := fun o => HX9.out.frozen o; obtain ⟨lw, hlw⟩ : ∃ lw, lw = hs ++ [(⟨yi, zi, (t : Int)⟩ : Hp)] := ⟨_, rfl⟩; rw [← hlw] at HO9; have HLW := Lib.hid hlw; clear hX9 hY9 ho9 hb9 hkp hat hlw)
            have hwX : w.heap.size ≤ X := by rw [HXE.out]; exact Nat.le_refl _
            have hBF := (((HB9.out.setCell (p := ⟨X, 0, none⟩) hwX (.int .i64 zi)).setCell (p := ⟨X, 1, none⟩) hwX (.string zk)).setCell (p := ⟨X, 2, none⟩) hwX (.int .u32 (zw : Int))).setCell (p := ⟨X, 3, none⟩) hwX (.slice A2 17 c2)
            have hid : zi = ii := HZL.out.2
            refine ⟨⟨v9, ⟨zi, zk, zw⟩, A2, c2, lw, rfl, HO9.out.keep (fun j h1 _ => heap4 _ _ _ _ _ _ j (by omega)), set4 HX9.out _ _ _ _, (by rw [show (⟨zi, zk, zw⟩ : Nd).id = ii from hid]; exact (HA2.out.below hBF).more hBF.size), hBF, HZL.out.1, Lib.hid ⟨HZ5.out.2.2.2.2, ?_, ?_⟩⟩, ?_⟩
            · rw [HT2.out, HLW.out, List.append_assoc]; rfl
            · rw [HLW.out, List.length_append]
              have := HDZ.out
              have := HBD.out
              simp only [List.length_cons, List.length_nil]
              omega
            · rw [HMEA.out, (set4 HX9.out (.int .i64 zi) (.string zk) (.int .u32 (zw : Int)) (.slice A2 17 c2)).cell 0]
              show dsC r l (some (.int .i64 zi)) < _
              rw [HDS.out ⟨zi, zk, zw⟩ zi rfl HZL.out.1]
              exact HDZ.out
        · have hfi := (HFF.out ii).2 hp
          rw [hfi] at hlook
          have hlook2 : (Instr.lookup 112 (.map (some mb)) (.int .i64 ii) true).run Tryz.prog w3 = .ok (.tuple #[.agg #[.int .i64 0, .string ByteArray.empty, .int .u32 0, .slice none 0 0], .bool false]) w3 := hlook
          have hnx := HNY.out.2.2 hp
          have hbY := (Below.refl w3.heap.size w3).alloc (Nat.le_refl _) (.cells #[.int .i64 0, .string ByteArray.empty, .int .u32 0, .slice none 0 0] 115)
          have HXY := Lib.hid (hX3.below hbY)
          have HBY := Lib.hid (HB3.out.trans (hbY.mono HB3.out.size))
          have HOY := Lib.hid (HO3.out.below hbY)
          have HAY := Lib.hid ((HA3.out.below hbY).more hbY.size)
          have HT2 := Lib.hid (HTT.out.trans (by rw [HR1Y.out hnx] : _ = (hs ++ (rtW l k q r ⟨yi, yk, yw⟩ t).1, (rtW l k q r ⟨yi, yk, yw⟩ t).2)))
          have e1 : IntKind.i64.wrap ((t : Int) - 1) = (t : Int) - 1 := IntWalk.i64_in _ (by omega)
          clear hlook hfi hX3 hbY HB3 HO3 HNY HFI hnx HTT HR1Y HR2Y HD1Y HSOY hp
          go_wp2_with fail
          exact ⟨⟨_, t, ⟨yi, yk, yw⟩, A1, c1, hs, rfl, by go_num, by omega, HOY.out, HXY.out, HAY.out, HBY.out, HY1.out, Lib.hid ⟨HSDY.out, HT2.out, HBD.out⟩⟩, by simp [intOf]⟩
end
section
open Go.RowKit


/-- What a search answers: its hops in new memory, and the error. -/
def RteP (E : Int) (R : List Hp) (w : World) (e : Ending) (w' : World) : Prop := ∃ v, e = .returned (.tuple #[v, .int .i64 E]) ∧ OwnH w' w.heap.size v R ∧ Below w.heap.size w w'
theorem rteE_inv {l : List Nd} {id : Int} {q : ByteArray} (h : ¬ (chkV l = 0 ∧ vk q = true)) : rteE l id q = 1 := if_neg h
theorem rteE_unk {l : List Nd} {id : Int} {q : ByteArray} (h : chkV l = 0) (h2 : vk q = true) (h3 : ¬ plc l id < l.length) : rteE l id q = 6 := by
  unfold rteE; rw [if_pos ⟨h, h2⟩, if_neg h3]
theorem rteE_ok {l : List Nd} {id : Int} {q : ByteArray} (h : chkV l = 0) (h2 : vk q = true) (h3 : plc l id < l.length) : rteE l id q = 0 := by
  unfold rteE; rw [if_pos ⟨h, h2⟩, if_pos h3]
theorem rteR_no {l : List Nd} {k : List Ld} {id : Int} {q : ByteArray} (h : rteE l id q ≠ 0) : rteR l k id q = [] := if_neg h
theorem rteR_ok {l : List Nd} {k : List Ld} {id : Int} {q : ByteArray} (h : rteE l id q = 0) : rteR l k id q = rteW l k q (fndV l id) := if_pos h
set_option maxRecDepth 100000 in
set_option maxHeartbeats 1600000 in
theorem routeK_any (A A2 : Option Addr) (l : List Nd) (k : List Ld) (c c2 : Nat) (id : Int) (q : ByteArray) (w : World) (hl : Nds w w.heap.size A l) (hk : Lds w w.heap.size A2 k) (hI : ∀ x ∈ k, -9223372036854775808 ≤ x.id ∧ x.id ≤ 9223372036854775807) (hkn : k.length ≤ maxLen) (hwd : ∀ x ∈ l, x.word < 4294967296)
    (hid : I64 id) (hw : ∀ (i : Int) (t : Nat), I64 (atV k i (t : Int)).left ∧ I64 (atV k i (t : Int)).right) :
    Calls Tryz.prog 57 #[.slice A l.length c, .slice A2 k.length c2, .int .i64 id, .string q] w (RteP (rteE l id q) (rteR l k id q) w) := by
  have HC := Lib.hid (check_any A l c w hl hwd)
  by_cases hc : chkV l = 0
  · rw [hc] at HC
    have HV := Lib.hid (fun (W : World) => vk_key q W)
    by_cases hv : vk q = true
    · rw [hv] at HV
      have HS := Lib.hid (fun (W : World) (j : Below w.heap.size w W) => stops_any A A2 l k c c2 W ((hl.below j).more j.size) ((hk.below j).more j.size) hI hkn hc)
      unfold StopsP at HS
      by_cases hp : plc l id < l.length
      · have HE := Lib.hid (rteE_ok (l := l) (id := id) hc hv hp)
        have HR := Lib.hid (rteR_ok (k := k) HE.out)
        have hin := fnd_in hp
        have HRT := Lib.hid (fun (W : World) (v : Value) (A : Option Addr) (c : Nat) (hS : Stops W l k v) (hA : Lks W W.heap.size A ((List.range 17).map fun (t : Nat) => atV k (fndV l id).id (t : Int))) => route_any A l k q (fndV l id) c v W hc hin.1 hS hA hw)
        rw [HE.out, HR.out]
        have HST := Lib.hid (fun (W : World) (v : Value) (h : Stops W l k v) => (by
          obtain ⟨b, n, f, e, h1, h2⟩ := h
          obtain ⟨A5, c5, h3, h4⟩ := (h2 id).1 hp
          have h5 := h1.look_ok Tryz.underlying112 (zeroSt W) hid.1 hid.2
          rw [h3] at h5
          rw [hin.2]
          exact ⟨b, A5, c5, e, h5, h4⟩ : ∃ b A5 c5, v = .map (some b) ∧ (Instr.lookup 112 (.map (some b)) (.int .i64 id) true).run Tryz.prog W = .ok (.tuple #[stV (fndV l id) (.slice A5 17 c5), .bool true]) W ∧ Lks W W.heap.size A5 ((List.range 17).map fun (t : Nat) => atV k (fndV l id).id (t : Int))))
        unfold HpsP at HRT
        unfold stV at HRT HST
        generalize rteW l k q (fndV l id) = R at *
        have HSB := Lib.hid (fun (W W' : World) (v : Value) (h : Stops W l k v) (j : Below W.heap.size W W') => h.below j)
        generalize fndV l id = x at *
        obtain ⟨xi, xk, xw⟩ := x
        simp only at HRT HST
        obtain ⟨n, hn⟩ : ∃ n, n = l.length := ⟨_, rfl⟩
        obtain ⟨m, hm⟩ : ∃ m, m = k.length := ⟨_, rfl⟩
        rw [← hn] at HC HS ⊢
        rw [← hm] at HS ⊢
        clear hl hk hI hkn hwd hid hw hc hv hp HE HR hin hn hm
        go_enter Tryz.func57, Tryz.ntmps57
        go_wp2_with fail
        refine (HC.out).mono ?_
        rintro e w1 ⟨rfl, hb1⟩
        have HB1 := Lib.hid hb1
        clear hb1 HC
        go_wp2_with fail
        refine (HV.out _).mono ?_
        rintro e w2 ⟨rfl, rfl⟩
        go_wp2_with fail
        refine (HS.out _ HB1.out).mono ?_
        rintro e w2 ⟨v, rfl, hS, hb2⟩
        obtain ⟨b, A5, c5, rfl, hlook, hA⟩ := HST.out _ _ hS
        have hk2 := hb2.trans (((Below.refl w2.heap.size w2).alloc (Nat.le_refl _) (.cells #[.int .i64 xi, .string xk, .int .u32 (xw : Int), .slice A5 17 c5] 115)).mono hb2.size)
        have hbX := (Below.refl w2.heap.size w2).alloc (Nat.le_refl _) (.cells #[.int .i64 xi, .string xk, .int .u32 (xw : Int), .slice A5 17 c5] 115)
        have hX := Has.new w2 115 #[.int .i64 xi, .string xk, .int .u32 (xw : Int), .slice A5 17 c5]
        have x0 := hX.cell 0
        have x1 := hX.cell 1
        have x2 := hX.cell 2
        have x3 := hX.cell 3
        have HB2 := Lib.hid (HB1.out.trans (hk2.mono HB1.out.size))
        have HS2 := Lib.hid (HSB.out _ _ _ hS hbX)
        have HA2 := Lib.hid ((hA.below hbX).more hbX.size)
        have HRX := Lib.hid (HRT.out _ _ A5 c5 HS2.out HA2.out)
        clear hb2 hk2 hbX hX hS hA HS HB1 HST HSB HRT
        go_wp2_with fail
        refine (HRX.out).mono ?_
        rintro e w3 ⟨v3, rfl, ho3, hb3⟩
        have HB3 := Lib.hid (HB2.out.trans (hb3.mono HB2.out.size))
        have HO3 := Lib.hid (ho3.low HB2.out.size)
        clear ho3 hb3 HRX HS2 HA2
        go_wp2_with fail
        go_ret2
        exact ⟨v3, rfl, HO3.out, HB3.out⟩
      · have HE := Lib.hid (rteE_unk (l := l) (id := id) hc hv hp)
        have HR := Lib.hid (rteR_no (l := l) (k := k) (id := id) (q := q) (by rw [HE.out]; decide))
        have HST := Lib.hid (fun (W : World) (v : Value) (h : Stops W l k v) => (by
          obtain ⟨b, n, f, e, h1, h2⟩ := h
          have h3 := (h2 id).2 hp
          have h5 := h1.look_ok Tryz.underlying112 (zeroSt W) hid.1 hid.2
          rw [h3] at h5
          exact ⟨b, e, h5⟩ : ∃ b, v = .map (some b) ∧ (Instr.lookup 112 (.map (some b)) (.int .i64 id) true).run Tryz.prog W = .ok (.tuple #[.agg #[.int .i64 0, .string ByteArray.empty, .int .u32 0, .slice none 0 0], .bool false]) W))
        rw [HE.out, HR.out]
        obtain ⟨n, hn⟩ : ∃ n, n = l.length := ⟨_, rfl⟩
        obtain ⟨m, hm⟩ : ∃ m, m = k.length := ⟨_, rfl⟩
        rw [← hn] at HC HS ⊢
        rw [← hm] at HS ⊢
        clear hl hk hI hkn hwd hid hw hc hv hp HE HR hn hm
        go_enter Tryz.func57, Tryz.ntmps57
        go_wp2_with fail
        refine (HC.out).mono ?_
        rintro e w1 ⟨rfl, hb1⟩
        have HB1 := Lib.hid hb1
        clear hb1 HC
        go_wp2_with fail
        refine (HV.out _).mono ?_
        rintro e w2 ⟨rfl, rfl⟩
        go_wp2_with fail
        refine (HS.out _ HB1.out).mono ?_
        rintro e w2 ⟨v, rfl, hS, hb2⟩
        obtain ⟨b, rfl, hlook⟩ := HST.out _ _ hS
        have hk2 := hb2.trans (((Below.refl w2.heap.size w2).alloc (Nat.le_refl _) (.cells #[.int .i64 0, .string ByteArray.empty, .int .u32 0, .slice none 0 0] 115)).mono hb2.size)
        have HB2 := Lib.hid (HB1.out.trans (hk2.mono HB1.out.size))
        clear hb2 hk2 hS HS HB1 HST
        go_wp2_with fail
        go_ret2
        exact ⟨_, rfl, OwnH.nil _ _, HB2.out⟩
    · have hz : vk q = false := by simpa using hv
      have HE := Lib.hid (rteE_inv (l := l) (id := id) (q := q) (fun e => hv e.2))
      have HR := Lib.hid (rteR_no (l := l) (k := k) (id := id) (q := q) (by rw [HE.out]; decide))
      rw [hz] at HV
      rw [HE.out, HR.out]
      obtain ⟨n, hn⟩ : ∃ n, n = l.length := ⟨_, rfl⟩
      obtain ⟨m, hm⟩ : ∃ m, m = k.length := ⟨_, rfl⟩
      rw [← hn] at HC ⊢
      rw [← hm]
      clear hl hk hI hkn hwd hid hw hc hv hz HE HR hn hm
      go_enter Tryz.func57, Tryz.ntmps57
      go_wp2_with fail
      refine (HC.out).mono ?_
      rintro e w1 ⟨rfl, hb1⟩
      have HB1 := Lib.hid hb1
      clear hb1 HC
      go_wp2_with fail
      refine (HV.out _).mono ?_
      rintro e w2 ⟨rfl, rfl⟩
      go_wp2_with fail
      go_ret2
      exact ⟨_, rfl, OwnH.nil _ _, HB1.out⟩
  · have HE := Lib.hid (rteE_inv (l := l) (id := id) (q := q) (fun e => hc e.1))
    have HR := Lib.hid (rteR_no (l := l) (k := k) (id := id) (q := q) (by rw [HE.out]; decide))
    have hz : (chkV l != 0) = true := by simpa using hc
    rw [HE.out, HR.out]
    generalize chkV l = Z at *
    obtain ⟨n, hn⟩ : ∃ n, n = l.length := ⟨_, rfl⟩
    obtain ⟨m, hm⟩ : ∃ m, m = k.length := ⟨_, rfl⟩
    rw [← hn] at HC ⊢
    rw [← hm]
    clear hl hk hI hkn hwd hid hw hc HE HR hn hm
    go_enter Tryz.func57, Tryz.ntmps57
    go_wp2_with fail
    refine (HC.out).mono ?_
    rintro e w1 ⟨rfl, hb1⟩
    have HB1 := Lib.hid hb1
    clear hb1 HC
    go_wp2_with fail
    go_ret2
    exact ⟨_, rfl, OwnH.nil _ _, HB1.out⟩
end
end Go.Proofs.YtjokbdhineilcaaGreatDoor
