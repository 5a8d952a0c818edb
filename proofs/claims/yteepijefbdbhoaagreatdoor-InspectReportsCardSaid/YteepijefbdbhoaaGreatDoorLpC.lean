/-
  Exact, isBeside and kind of package inspect. Conditions: what is read can be read.
  Rows of defects; Check of package inspect. Conditions: the nodes and links can be read; the table of trailing zeros lies as its initialiser lays it.
  Check of package inspect. Conditions: the nodes and links can be read; the table of trailing zeros lies as its initialiser lays it.
-/
import Derived.Test.YteepijefbdbhoaaGreatDoorLpA
import Derived.Test.YteepijefbdbhoaaGreatDoorKnE
import Derived.Test.YteepijefbdbhoaaGreatDoorKdN
namespace Go.Proofs.YteepijefbdbhoaaGreatDoor
section
open Go.RowKit

def exaB (l : List Nd) (k : List Ld) (h : Int) : Bool := decide (bldE l h = 0) && decide (k = bldV l (h + 1).toNat)
set_option maxRecDepth 100000 in
set_option maxHeartbeats 800000 in
theorem exact_any (A A2 : Option Addr) (l : List Nd) (k : List Ld) (c c2 : Nat) (h : Int) (w : World) (hl : Nds w w.heap.size A l) (hk : Lds w w.heap.size A2 k) (hkn : k.length ≤ maxLen) (hwd : ∀ x ∈ l, x.word < 4294967296) :
    Calls Tryz.prog 21 #[.slice A l.length c, .slice A2 k.length c2, .int .i64 h] w (BoolN (exaB l k h) w) := by
  have HB := Lib.hid (build_any A l c h w hl hwd)
  have HS := Lib.hid (fun (W : World) (j : Below w.heap.size w W) (A3 : Option Addr) (R : List Ld) (c3 : Nat) (h3 : Lds W W.heap.size A3 R) => same6_any A2 A3 k R c2 c3 W ((hk.below j).more j.size) h3 hkn)
  have HE0 : Hid (bldE l h ≠ 0 → exaB l k h = false) := Lib.hid fun e => by unfold exaB; simp [e]
  have HE1 : Hid (bldE l h = 0 → exaB l k h = decide (k = bldV l (h + 1).toNat)) := Lib.hid fun e => by unfold exaB; simp [e]
  have HRL : Hid (∀ x ∈ bldV l (h + 1).toNat, bldE l h = 0 → x.levels.length ≤ maxLen) := Lib.hid fun x hx e => by
    rw [bld_lev l _ x hx]
    have hlv : lvB h = true := by
      unfold bldE at e
      split at e
      · split at e
        · assumption
        · cases e
      · cases e
    have h2 : 0 ≤ h ∧ h ≤ 16 := by simpa [lvB] using hlv
    unfold maxLen
    omega
  generalize exaB l k h = Z at *
  unfold BldP at HB
  generalize bldE l h = E at *
  generalize bldV l (h + 1).toNat = R at *
  obtain ⟨KN, hKN⟩ : ∃ KN, KN = k.length := ⟨_, rfl⟩
  rw [← hKN] at HS ⊢
  clear hl hk hkn hwd hKN
  go_enter Tryz.func21, Tryz.ntmps21
  go_wp2_with fail
  refine (HB.out).mono ?_
  rintro e w1 (⟨hE, rfl, hb1⟩ | ⟨hE, g, H, hg, rfl, hD, hb1⟩)
  · have hz : (E == 0) = false := by simpa using hE
    have HZ := Lib.hid (HE0.out hE)
    clear hE
    go_wp2_with fail
    go_ret
    exact ⟨ret_bool HZ.out.symm, hb1⟩
  · subst hE
    have HR := Lib.hid (hD.read fun x hx => HRL.out x hx rfl)
    have HB1 := Lib.hid hb1
    have HZ := Lib.hid (HE1.out rfl)
    have HSS := Lib.hid (HS.out w1 hb1 (some ⟨g, 0, none⟩) R R.length HR.out)
    clear hD hb1 hg HS HE0 HE1 HRL
    go_wp2_with fail
    refine (HSS.out).mono ?_
    rintro e w2 ⟨rfl, hb2⟩
    have HB2 := Lib.hid (HB1.out.trans (hb2.mono HB1.out.size))
    clear hb2
    go_wp2_with fail
    go_ret
    exact ⟨ret_bool HZ.out.symm, HB2.out⟩
/-- Whether a key is on a side of another one. -/
def besB (x y : Nd) (side : Int) : Bool := if side = 0 then kl y.key x.key else kl x.key y.key
theorem gtr_kl (a b : ByteArray) : (!(Op.bytesLess a.toList b.toList || a.toList == b.toList)) = kl b a := by
  show (!(kl a b || a.toList == b.toList)) = kl b a
  cases h1 : kl a b
  · by_cases h2 : a.toList = b.toList
    · have := toList_inj h2
      subst this
      simp [kl_irrefl]
    · cases h3 : kl b a
      · exact absurd (by rw [kl_tri h1 h3]) h2
      · simp [h2]
  · rw [kl_asymm h1]
    rfl
set_option maxRecDepth 100000 in
theorem beside_any (x y : Nd) (side : Int) (w : World) :
    Calls Tryz.prog 72 #[x.val, y.val, .int .i64 side] w (BoolN (besB x y side) w) := by
  have HZ : Hid (besB x y side = if side = 0 then kl y.key x.key else kl x.key y.key) := Lib.hid rfl
  generalize besB x y side = Z at *
  obtain ⟨xi, xk, xw⟩ := x
  obtain ⟨yi, yk, yw⟩ := y
  simp only at HZ
  have hX := Has.new w 59 #[.int .i64 xi, .string xk, .int .u32 (xw : Int)]
  have hb1 := (Below.refl w.heap.size w).alloc (Nat.le_refl _) (.cells #[.int .i64 xi, .string xk, .int .u32 (xw : Int)] 59)
  have hb2 := hb1.alloc (by rw [World.size_alloc]; omega) (.cells #[.int .i64 yi, .string yk, .int .u32 (yw : Int)] 59)
  have HB := Lib.hid hb2
  have hl1 : ∀ a b : ByteArray, Op.bytesLess a.toList b.toList = kl a b := fun _ _ => rfl
  have hl2 := gtr_kl yk xk
  by_cases hs : side = 0
  · have hs' : (side == 0) = true := by simpa using hs
    have HZ2 : Hid (Z = kl yk xk) := Lib.hid (by rw [HZ.out, if_pos hs])
    clear hs hl2 hb1 hb2
    generalize hk : kl yk xk = K at *
    have hl3 : Op.bytesLess yk.toList xk.toList = K := hk
    clear hl1
    show Calls Tryz.prog 72 #[.agg #[.int .i64 xi, .string xk, .int .u32 (xw : Int)], .agg #[.int .i64 yi, .string yk, .int .u32 (yw : Int)], .int .i64 side] w _
    go_enter Tryz.func72, Tryz.ntmps72
    go_wp2_with fail
    go_ret
    exact ⟨ret_bool HZ2.out.symm, HB.out⟩
  · have hs' : (side == 0) = false := by simpa using hs
    have HZ2 : Hid (Z = kl xk yk) := Lib.hid (by rw [HZ.out, if_neg hs])
    clear hs hl1 hb1 hb2
    generalize kl xk yk = K at *
    show Calls Tryz.prog 72 #[.agg #[.int .i64 xi, .string xk, .int .u32 (xw : Int)], .agg #[.int .i64 yi, .string yk, .int .u32 (yw : Int)], .int .i64 side] w _
    go_enter Tryz.func72, Tryz.ntmps72
    go_wp2_with fail
    go_ret
    exact ⟨ret_bool HZ2.out.symm, HB.out⟩
theorem ndF_no {l : List Nd} {i : Int} (h : ¬ plc l i < l.length) : ndF l i = none := by
  unfold ndF
  rw [List.find?_eq_none.2 fun x hx => ?_]
  · rfl
  · have := mt (fun e : x.id = i => plc_found.2 ⟨x, List.mem_reverse.1 hx, e⟩) h
    simpa using this
theorem ndF_self {l : List Nd} (ha : l.Pairwise Nd.apart) {x : Nd} (hx : x ∈ l) : ndF l x.id = some x.val := by
  unfold ndF
  cases hf : l.reverse.find? fun y => decide (y.id = x.id) with
  | none =>
    have := List.find?_eq_none.1 hf x (List.mem_reverse.2 hx)
    simp at this
  | some y =>
    have h1 := List.mem_reverse.1 (List.mem_of_find?_eq_some hf)
    have h2 := List.find?_some hf
    rw [id_uniq ha h1 hx (by simpa using h2)]
    rfl
theorem ndF_yes {l : List Nd} (ha : l.Pairwise Nd.apart) {i : Int} (h : plc l i < l.length) : ndF l i = some (fndV l i).val ∧ fndV l i ∈ l := by
  obtain ⟨x, hx, rfl⟩ := plc_found.1 h
  rw [fnd_self ha hx]
  exact ⟨ndF_self ha hx, hx⟩
def zN : Value := .agg #[.int .i64 0, .string ByteArray.empty, .int .u32 0]
def Df.val (d : Df) : Value := .agg #[.int .i64 d.kind, .int .i64 d.id, .int .i64 d.level, .int .i64 d.side, .int .i64 d.have_, .int .i64 d.want]
theorem knd_side {l : List Nd} {x : Nd} {hv t side : Int} (h0 : hv ≠ 0) (h1 : plc l hv < l.length) (hs : side = 0 ∨ side = 1) : kndV l x hv t side = if besB x (fndV l hv) side = false then 2 else if t ≤ (cm x.word (fndV l hv).word : Int) then 5 else 3 := by
  unfold kndV besB
  rw [if_neg h0, if_pos h1]
  rcases hs with rfl | rfl
  · simp
  · simp
set_option maxRecDepth 100000 in
set_option maxHeartbeats 1600000 in
theorem kind_any (b n : Nat) (l : List Nd) (d : Df) (x : Nd) (w : World) (hc : chkV l = 0) (hx : x ∈ l) (hid : d.id = x.id) (hh : -9223372036854775808 ≤ d.have_ ∧ d.have_ ≤ 9223372036854775807) (hs : d.side = 0 ∨ d.side = 1) (hM : VMap w b n (.agg #[.int .i64 0, .string ByteArray.empty, .int .u32 0]) (ndF l)) (hT : Deb w) :
    Calls Tryz.prog 49 #[.map (some b), d.val] w fun e w' => e = .returned (.int .i64 (kndV l x d.have_ d.level d.side)) ∧ Below w.heap.size w w' := by
  have ha := (chkV_zero.1 hc).2.2
  have hself := ndF_self ha hx
  have hxw := wide_of hc x hx
  have HK0 : Hid (d.have_ = 0 → kndV l x d.have_ d.level d.side = 4) := Lib.hid fun e => by unfold kndV; rw [if_pos e]
  have HK1 : Hid (d.have_ ≠ 0 → ¬ plc l d.have_ < l.length → kndV l x d.have_ d.level d.side = 1) := Lib.hid fun e1 e2 => by unfold kndV; rw [if_neg e1, if_neg e2]
  have HK2 : Hid (d.have_ ≠ 0 → plc l d.have_ < l.length → kndV l x d.have_ d.level d.side = if besB x (fndV l d.have_) d.side = false then 2 else if d.level ≤ (cm x.word (fndV l d.have_).word : Int) then 5 else 3) := Lib.hid fun e1 e2 => knd_side e1 e2 hs
  have HNO := Lib.hid (fun (h : ¬ plc l d.have_ < l.length) => ndF_no h)
  have HYES := Lib.hid (fun (h : plc l d.have_ < l.length) => ndF_yes ha h)
  have HW := Lib.hid (wide_of hc)
  have HC := Lib.hid hc
  obtain ⟨dk, di, dl, ds, dh, dw⟩ := d
  simp only at hid hh hs HK0 HK1 HK2 HNO HYES
  generalize kndV l x dh dl ds = Z at *
  subst hid
  have HD := Lib.hid (Has.new w 52 #[.int .i64 dk, .int .i64 x.id, .int .i64 dl, .int .i64 ds, .int .i64 dh, .int .i64 dw])
  have hb1 := (Below.refl w.heap.size w).alloc (Nat.le_refl _) (.cells #[.int .i64 dk, .int .i64 x.id, .int .i64 dl, .int .i64 ds, .int .i64 dh, .int .i64 dw] 52)
  have hM1 := hM.below hb1
  have hT1 := hT.below hb1
  have HB1 := Lib.hid hb1
  have HDX : Hid (x.val = .agg #[.int .i64 x.id, .string x.key, .int .u32 (x.word : Int)]) := Lib.hid rfl
  have hlk1 := hM1.look Tryz.underlying78 (zeroNd _) hxw.1.1 hxw.1.2
  rw [hself] at hlk1
  simp only [Option.getD_some] at hlk1
  clear hself hM hT hb1 hc ha
  show Calls Tryz.prog 49 #[.map (some b), .agg #[.int .i64 dk, .int .i64 x.id, .int .i64 dl, .int .i64 ds, .int .i64 dh, .int .i64 dw]] w _
  go_enter Tryz.func49, Tryz.ntmps49
  go_upto_region 1 with fail
  generalize w.alloc (.cells #[.int .i64 dk, .int .i64 x.id, .int .i64 dl, .int .i64 ds, .int .i64 dh, .int .i64 dw] 52) = WA at *
  have d1 := HD.out.cell 1
  have hbX := (Below.refl WA.heap.size WA).alloc (Nat.le_refl _) (.cells #[.int .i64 x.id, .string x.key, .int .u32 (x.word : Int)] 59)
  have HX := Lib.hid (Has.new WA 59 #[.int .i64 x.id, .string x.key, .int .u32 (x.word : Int)])
  have HD2 := Lib.hid (HD.out.below hbX)
  have HM2 := Lib.hid (hM1.below hbX)
  have HT2 := Lib.hid (hT1.below hbX)
  have HB2 := Lib.hid (HB1.out.trans (hbX.mono HB1.out.size))
  clear hM1 hT1 hbX HD HB1
  go_upto_region 2 with fail
  generalize WA.alloc (.cells #[.int .i64 x.id, .string x.key, .int .u32 (x.word : Int)] 59) = WB at *
  clear d1 hlk1
  have d4 := HD2.out.cell 4
  have hlk := HM2.out.look_ok Tryz.underlying78 (zeroNd _) hh.1 hh.2
  by_cases hp : plc l dh < l.length
  · obtain ⟨hf, hm⟩ := HYES.out hp
    have hn0 : dh ≠ 0 := by
      rintro rfl
      exact plc_zero HC.out hp
    have hz : (dh == 0) = false := by simpa using hn0
    have HZ := Lib.hid (HK2.out hn0 hp)
    have hyw := (HW.out _ hm).2
    rw [hf] at hlk
    simp only [Option.getD_some, Option.isSome_some] at hlk
    generalize fndV l dh = y at *
    have hbY := (Below.refl WB.heap.size WB).alloc (Nat.le_refl _) (.cells #[.int .i64 y.id, .string y.key, .int .u32 (y.word : Int)] 59)
    have HY := Lib.hid (Has.new WB 59 #[.int .i64 y.id, .string y.key, .int .u32 (y.word : Int)])
    have HB3 := Lib.hid (HB2.out.trans (hbY.mono HB2.out.size))
    have HX3 := Lib.hid (HX.out.below hbY)
    have HD3 := Lib.hid (HD2.out.below hbY)
    have HT3 := Lib.hid (HT2.out.below hbY)
    have d4' := (HD2.out.below hbY).cell 4
    clear hn0 hbY hp hf HK0 HK1 HK2 HYES HNO HX HD2 HT2 HB2 hm
    go_upto_region 3 with fail
    generalize WB.alloc (.cells #[.int .i64 y.id, .string y.key, .int .u32 (y.word : Int)] 59) = WC at *
    clear d4 hlk
    have x0 := HX3.out.cell 0
    have x1 := HX3.out.cell 1
    have x2 := HX3.out.cell 2
    have y0 := HY.out.cell 0
    have y1 := HY.out.cell 1
    have y2 := HY.out.cell 2
    have d3 := HD3.out.cell 3
    go_wp2_with fail
    refine (beside_any x y ds _).mono ?_
    rintro e w5 ⟨rfl, hb5⟩
    have x2' := (HX3.out.below hb5).cell 2
    have y2' := (HY.out.below hb5).cell 2
    have d2' := (HD3.out.below hb5).cell 2
    have HB5 := Lib.hid (HB3.out.trans (hb5.mono HB3.out.size))
    have hT5 := HT3.out.below hb5
    clear x0 x1 x2 y0 y1 y2 d3 d4' hb5 HX3 HY HD3 HT3 HB3
    generalize besB x y ds = bs at *
    cases bs
    · have HZ2 : Hid (Z = 2) := Lib.hid (by rw [HZ.out]; rfl)
      go_wp2_with fail
      go_ret
      exact ⟨ret_int HZ2.out.symm, HB5.out⟩
    · have HZ2 : Hid (Z = if dl ≤ (cm x.word y.word : Int) then 5 else 3) := Lib.hid (by rw [HZ.out]; rfl)
      have HSM := Lib.hid (same_any x.word y.word dl w5 hxw.2 hyw hT5)
      by_cases hcm : dl ≤ (cm x.word y.word : Int)
      · rw [decide_eq_true hcm] at HSM
        rw [if_pos hcm] at HZ2
        clear hcm hT5
        go_wp2_with fail
        refine (HSM.out).mono ?_
        rintro e w6 ⟨rfl, rfl⟩
        go_wp2_with fail
        go_ret
        exact ⟨ret_int HZ2.out.symm, HB5.out⟩
      · rw [decide_eq_false hcm] at HSM
        rw [if_neg hcm] at HZ2
        clear hcm hT5
        go_wp2_with fail
        refine (HSM.out).mono ?_
        rintro e w6 ⟨rfl, rfl⟩
        go_wp2_with fail
        go_ret
        exact ⟨ret_int HZ2.out.symm, HB5.out⟩
  · have hf := HNO.out hp
    rw [hf] at hlk
    simp only [Option.getD_none, Option.isSome_none] at hlk
    have hbY := (Below.refl WB.heap.size WB).alloc (Nat.le_refl _) (.cells #[.int .i64 0, .string ByteArray.empty, .int .u32 0] 59)
    have HB3 := Lib.hid (HB2.out.trans (hbY.mono HB2.out.size))
    have d4' := (HD2.out.below hbY).cell 4
    by_cases hn0 : dh = 0
    · have hz : (dh == 0) = true := by simpa using hn0
      have HZ := Lib.hid (HK0.out hn0)
      clear hn0 hbY hp hf HK0 HK1 HK2 HYES HNO
      go_wp2_with fail
      go_ret
      exact ⟨ret_int HZ.out.symm, HB3.out⟩
    · have hz : (dh == 0) = false := by simpa using hn0
      have HZ := Lib.hid (HK1.out hn0 hp)
      clear hn0 hbY hp hf HK0 HK1 HK2 HYES HNO
      go_wp2_with fail
      go_ret
      exact ⟨ret_int HZ.out.symm, HB3.out⟩
end
section
open Go.RowKit

theorem infoDefect : (Tryz.prog.info? 52).map (fun i => (i.zero, i.size, i.bytes)) = some (some (.agg #[.int .i64 0, .int .i64 0, .int .i64 0, .int .i64 0, .int .i64 0, .int .i64 0]), 6, 48) := by kernel_rfl
theorem infoDf_parts : ∃ i, Tryz.prog.info? 52 = some i ∧ i.zero = some (.agg #[.int .i64 0, .int .i64 0, .int .i64 0, .int .i64 0, .int .i64 0, .int .i64 0]) ∧ i.size = 6 ∧ i.bytes = 48 := by
  obtain ⟨i, h, e⟩ := Option.map_eq_some_iff.1 infoDefect
  injection e with e1 e2
  injection e2 with e2 e3
  exact ⟨i, h, e1, e2, e3⟩
def Df.cells (d : Df) : List Value := [.int .i64 d.kind, .int .i64 d.id, .int .i64 d.level, .int .i64 d.side, .int .i64 d.have_, .int .i64 d.want]
/-- A row of defects of the call's own. -/
def flatDf (l : List Df) : List Value := l.flatMap Df.cells
theorem flatDf_len (l : List Df) : (flatDf l).length = l.length * 6 := by
  induction l with
  | nil => rfl
  | cons x l ih => show (_ ++ flatDf l).length = _; rw [List.length_append, ih]; simp [Df.cells]; omega
theorem flatDf_snoc (l : List Df) (f : Df) : flatDf (l ++ [f]) = flatDf l ++ f.cells := by simp [flatDf]
theorem flatDf_at : ∀ (l : List Df) (i : Nat) (h : i < l.length) (j : Nat), j < 6 → (flatDf l)[i * 6 + j]? = l[i].cells[j]?
  | [], _, h, _, _ => by simp at h
  | f :: l, 0, _, j, hj => by
    show (f.cells ++ flatDf l)[0 * 6 + j]? = f.cells[j]?
    rw [List.getElem?_append_left (by simp [Df.cells]; omega), Nat.zero_mul, Nat.zero_add]
  | f :: l, i + 1, h, j, hj => by
    have := flatDf_at l i (by simpa using h) j hj
    show (f.cells ++ flatDf l)[(i + 1) * 6 + j]? = _
    rw [List.getElem?_append_right (by simp [Df.cells]; omega)]
    rw [show (i + 1) * 6 + j - f.cells.length = i * 6 + j by simp [Df.cells]; omega]
    exact this
/-- Slices of defects below block B, as they are read. -/
def Dfs (w : World) (B : Nat) (A : Option Addr) (l : List Df) : Prop :=
  l ≠ [] → ∃ b o, A = some ⟨b, o, none⟩ ∧ b < B ∧ ∀ i (h : i < l.length) (j : Nat), j < 6 → w.cell? ⟨b, o + (i * 6 + j), none⟩ = l[i].cells[j]?
theorem Dfs.below {w w' : World} {B : Nat} {A : Option Addr} {l : List Df} (h : Dfs w B A l) (k : Below B w w') : Dfs w' B A l := fun hn => by
  obtain ⟨b, o, e, hb, hc⟩ := h hn
  exact ⟨b, o, e, hb, fun i hi j hj => (World.cell?_of_block (k.block b hb)).trans (hc i hi j hj)⟩
theorem Dfs.more {w : World} {B B' : Nat} {A : Option Addr} {l : List Df} (h : Dfs w B A l) (hB : B ≤ B') : Dfs w B' A l := fun hn => by
  obtain ⟨b, o, e, hb, hc⟩ := h hn
  exact ⟨b, o, e, by omega, hc⟩
def OwnDf (w : World) (base : Nat) (v : Value) (l : List Df) : Prop := w.ownsRow base 52 6 v l.length (flatDf l)
theorem OwnDf.nil (w : World) (base : Nat) : OwnDf w base (.slice none 0 0) [] := World.ownsRow_nil _ _ _ _
theorem OwnDf.shape {w : World} {base : Nat} {v : Value} {l : List Df} (h : OwnDf w base v l) : ∃ A c, v = .slice A l.length c := by
  obtain ⟨_, ⟨rfl, h2⟩ | ⟨g, cap, cur, rfl, _⟩⟩ := h
  · exact ⟨none, 0, by rw [h2]⟩
  · exact ⟨_, _, rfl⟩
theorem OwnDf.low {w : World} {base b : Nat} {v : Value} {l : List Df} (h : OwnDf w base v l) (hb : b ≤ base) : OwnDf w b v l := by
  obtain ⟨h1, h2 | ⟨g, cap, cur, h3, h4, h5, h6⟩⟩ := h
  · exact ⟨h1, .inl h2⟩
  · exact ⟨h1, .inr ⟨g, cap, cur, h3, by omega, h5, h6⟩⟩
theorem OwnDf.keep {w w' : World} {base : Nat} {v : Value} {l : List Df} (h : OwnDf w base v l) (k : ∀ i, base ≤ i → i < w.heap.size → w'.heap[i]? = w.heap[i]?) : OwnDf w' base v l := by
  obtain ⟨h1, h2 | ⟨g, cap, cur, h3, h4, h5, h6⟩⟩ := h
  · exact ⟨h1, .inl h2⟩
  · exact ⟨h1, .inr ⟨g, cap, cur, h3, h4, (k g h4 (Has.lt h5)).trans h5, h6⟩⟩
theorem OwnDf.below {w w' : World} {base : Nat} {v : Value} {l : List Df} (h : OwnDf w base v l) (k : Below w.heap.size w w') : OwnDf w' base v l := h.keep fun i _ hi => k.block i hi
theorem OwnDf.read {w : World} {base : Nat} {v : Value} {l : List Df} (h : OwnDf w base v l) : ∃ A c, v = .slice A l.length c ∧ Dfs w w.heap.size A l := by
  obtain ⟨h1, ⟨rfl, h2⟩ | ⟨g, cap, cur, rfl, h4, h5, h6, h7, h8, h9⟩⟩ := h
  · have hl : l = [] := List.eq_nil_of_length_eq_zero h2
    subst hl
    exact ⟨none, 0, rfl, fun h => absurd rfl h⟩
  · refine ⟨_, cap, rfl, fun _ => ⟨g, 0, rfl, Has.lt h5, fun i hi j hj => ?_⟩⟩
    have hh := flatDf_at l i hi j hj
    rw [← h9, List.getElem?_take_of_lt (by omega), Array.getElem?_toList] at hh
    rw [Nat.zero_add, Has.cell h5]
    exact hh
/-- append of one defect, which lies in the block that was just made. -/
theorem wpList_pushDf {P : Program} {ops : Array Oper} {rest : List Oper} {o : Oper} {a : Act} {Q : Exit → Act → World → Prop} (hgd : o.guard = none) (s x : Operand) (t : TypeId)
    (ho : o.op = .call { callee := .builtin .append, args := #[s, x], argTypes := #[t, t] })
    (base : Nat) (i : TypeInfo) (ht : P.underlying t = some (.slice 52)) (hi : P.info? 52 = some i) (hz : i.zero = some (.agg #[.int .i64 0, .int .i64 0, .int .i64 0, .int .i64 0, .int .i64 0, .int .i64 0])) (hsize : i.size = 6) (hby : i.bytes = 48)
    (v : Value) (l : List Df) (w0 : World) (f : Df) (hs : a.eval s = v) (hown : OwnDf w0 base v l) (hx : a.eval x = .slice (some ⟨w0.heap.size, 0, none⟩) 1 1) (hlen : l.length < 1000000) (hbase : base ≤ w0.heap.size)
    (h : ∀ v' w', OwnDf w' base v' (l ++ [f]) → Below base w0 w' → (∀ j, j < w0.heap.size → v.ownBlock ≠ some j → w'.heap[j]? = w0.heap[j]?) → (v'.ownBlock = v.ownBlock ∨ ∃ k, w0.heap.size ≤ k ∧ v'.ownBlock = some k) → wpList P ops Q rest (a.put o.dst v') w') : wpList P ops Q (o :: rest) a (w0.alloc (.cells #[.int .i64 f.kind, .int .i64 f.id, .int .i64 f.level, .int .i64 f.side, .int .i64 f.have_, .int .i64 f.want] 52)) := by
  refine wpList_append_own_at _ hgd s x t ho base 52 i (.agg #[.int .i64 0, .int .i64 0, .int .i64 0, .int .i64 0, .int .i64 0, .int .i64 0]) 6 48 ht hi hz hsize hby rfl (by decide) v l.length (flatDf l) hs (OwnDf.below hown ((Below.refl _ _).alloc (Nat.le_refl _) _)) ⟨w0.heap.size, 0, none⟩ 1 1 f.cells hx rfl ?_ ?_ (by unfold maxLen; omega) (by omega) (by simp; omega) ?_
  · intro j u hj
    rw [add_at, Nat.zero_add, (Has.new w0 52 #[.int .i64 f.kind, .int .i64 f.id, .int .i64 f.level, .int .i64 f.side, .int .i64 f.have_, .int .i64 f.want]).cell, ← Array.getElem?_toList]
    exact hj
  · intro u hu
    simp [Df.cells] at hu
    rcases hu with rfl | rfl | rfl | rfl | rfl | rfl <;> rfl
  · intro v' w' ho' hg _ hat
    refine h v' w' ?_ ?_ (fun j hj hne => ?_) (hat.imp (fun e => e) fun e => ⟨_, by rw [World.size_alloc]; omega, e⟩)
    · unfold OwnDf
      rw [flatDf_snoc, List.length_append]
      exact ho'
    · refine ((Below.refl _ _).alloc hbase _).trans ⟨hg.os, hg.tape, hg.output, hg.size, fun j hj => hg.block j (by rw [World.size_alloc]; omega) ?_⟩
      intro e
      obtain ⟨_, ⟨rfl, _⟩ | ⟨g', cap', cur, rfl, h4, h5, _⟩⟩ := hown
      · cases e
      · have : j = g' := Option.some.inj e
        omega
    · exact (hg.block j (by rw [World.size_alloc]; omega) (fun e => hne e.symm)).trans (Below.heap_alloc w0 _ j hj)
theorem OwnDf.lt {w : World} {base : Nat} {v : Value} {l : List Df} (h : OwnDf w base v l) : ∀ k, v.ownBlock = some k → base ≤ k ∧ k < w.heap.size := World.ownsRow.lt h
theorem OwnDf.ne {w : World} {base X : Nat} {v : Value} {l : List Df} (h : OwnDf w base v l) (hX : w.heap.size ≤ X) : v.ownBlock ≠ some X := fun e => by have := (h.lt X e).2; omega
theorem atV_wide {k : List Ld} (h : ∀ x ∈ k, ∀ y ∈ x.levels, (-9223372036854775808 ≤ y.left ∧ y.left ≤ 9223372036854775807) ∧ (-9223372036854775808 ≤ y.right ∧ y.right ≤ 9223372036854775807)) (i t : Int) : (-9223372036854775808 ≤ (atV k i t).left ∧ (atV k i t).left ≤ 9223372036854775807) ∧ (-9223372036854775808 ≤ (atV k i t).right ∧ (atV k i t).right ≤ 9223372036854775807) := by
  have hz : ((-9223372036854775808 : Int) ≤ (⟨0, 0⟩ : Lk).left ∧ (⟨0, 0⟩ : Lk).left ≤ 9223372036854775807) ∧ (-9223372036854775808 ≤ (⟨0, 0⟩ : Lk).right ∧ (⟨0, 0⟩ : Lk).right ≤ 9223372036854775807) := by decide
  unfold atV
  split
  · exact hz
  · rename_i x hx
    have hm := List.mem_of_find?_eq_some hx
    split
    · cases hg : x.levels[t.toNat]? with
      | none => exact hz
      | some y => exact h x hm y (List.mem_of_getElem? hg)
    · exact hz
def DfsP (R : List Df) (w : World) (e : Ending) (w' : World) : Prop := ∃ v, e = .returned v ∧ OwnDf w' w.heap.size v R ∧ Below w.heap.size w w'
theorem dfS_len (l : List Nd) (x : Nd) (t side hv wt : Int) : (dfS l x t side hv wt).length ≤ 1 := by
  unfold dfS
  split <;> simp
theorem dfA_len (l : List Nd) (k : List Ld) (x : Nd) (t : Int) : (dfA l k x t).length ≤ 2 := by
  unfold dfA
  have h1 := dfS_len l x t 0 (atV k x.id t).left (nbL l x.id t).left
  have h2 := dfS_len l x t 1 (atV k x.id t).right (nbL l x.id t).right
  rw [List.length_append]
  omega
theorem nrmV_at {l : List Nd} {k : List Ld} {n i : Nat} (h : i < (srt l).length) (h2 : i < (nrmV l k n).length) : (nrmV l k n)[i] = ⟨(srt l)[i].id, (List.range n).map fun (t : Nat) => atV k (srt l)[i].id (t : Int)⟩ := by simp [nrmV]
theorem bldV_at {l : List Nd} (hc : chkV l = 0) {n i : Nat} (hn : n ≤ 17) (h : i < (srt l).length) (h2 : i < (bldV l n).length) : (bldV l n)[i] = ⟨(srt l)[i].id, (List.range n).map fun (t : Nat) => nbL l (srt l)[i].id (t : Int)⟩ := by
  simp only [bld_nb hc hn, List.getElem_map]
end
section
open Go.RowKit

set_option maxRecDepth 100000 in
set_option maxHeartbeats 3200000 in
theorem icheck_ok (A A2 : Option Addr) (l : List Nd) (k : List Ld) (c c2 m : Nat) (w : World) (hl : Nds w w.heap.size A l) (hk : Lds w w.heap.size A2 k) (hI : ∀ x ∈ k, -9223372036854775808 ≤ x.id ∧ x.id ≤ 9223372036854775807) (hkn : k.length ≤ maxLen) (hY : ∀ x ∈ k, ∀ y ∈ x.levels, (-9223372036854775808 ≤ y.left ∧ y.left ≤ 9223372036854775807) ∧ (-9223372036854775808 ≤ y.right ∧ y.right ≤ 9223372036854775807)) (hT : Deb w) (hchk : chkV l = 0) (hm : m ≤ 16) :
    Calls Tryz.prog 19 #[.slice A l.length c, .slice A2 k.length c2, .int .i64 (m : Int)] w (DfsP (chkD l k (m + 1)) w) := by
  have HBL := Lib.hid (build_ok A l c m w hl hchk hm)
  have hln : l.length ≤ 64 := (chkV_zero.1 hchk).1
  have HNM := Lib.hid (fun (W : World) (j : Below w.heap.size w W) => nodesByNumber_any A l c W ((hl.below j).more j.size) (wide_of hchk) (by unfold maxLen; omega))
  have HNR := Lib.hid (fun (W : World) (j : Below w.heap.size w W) => normal_ok A A2 l k c c2 m W ((hl.below j).more j.size) ((hk.below j).more j.size) hI hkn hchk hm)
  have HKD := Lib.hid (fun (b n : Nat) (d : Df) (x : Nd) (W : World) (hx : x ∈ l) (hid : d.id = x.id) hh hs hM hT => kind_any b n l d x W hchk hx hid hh hs hM hT)
  have HSM : Hid (∀ x, x ∈ srt l → x ∈ l) := Lib.hid fun x hx => srt_mem.1 hx
  have HAW := Lib.hid (fun (i t : Int) => atV_wide hY i t)
  have HNA := Lib.hid (fun (i : Nat) (h : i < (srt l).length) (h2 : i < (nrmV l k (m + 1)).length) => nrmV_at h h2)
  have HBA := Lib.hid (fun (i : Nat) (h : i < (srt l).length) (h2 : i < (bldV l (m + 1)).length) => bldV_at hchk (n := m + 1) (by omega) h h2)
  have HNL : Hid ((nrmV l k (m + 1)).length = (srt l).length) := Lib.hid (nrm_len l k (m + 1))
  have HBN : Hid ((bldV l (m + 1)).length = (srt l).length) := Lib.hid (by rw [bld_len, (srt_srt l).1.length_eq])
  have HCD : Hid (chkD l k (m + 1) = (srt l).flatMap fun x => (List.range (m + 1)).flatMap fun (t : Nat) => dfA l k x (t : Int)) := Lib.hid rfl
  have hsl := srt_le hchk
  have HT := Lib.hid hT
  generalize chkD l k (m + 1) = R at *
  generalize nrmV l k (m + 1) = RN at *
  generalize bldV l (m + 1) = RB at *
  generalize srt l = S at *
  obtain ⟨n, hn⟩ : ∃ n, n = S.length := ⟨_, rfl⟩
  have HN := Lib.hid hn
  rw [← hn] at HNL HBN hsl
  clear hn
  obtain ⟨LN, hLN⟩ : ∃ LN, LN = l.length := ⟨_, rfl⟩
  obtain ⟨KN, hKN⟩ : ∃ KN, KN = k.length := ⟨_, rfl⟩
  rw [← hLN] at HBL HNM HNR ⊢
  rw [← hKN] at HNR ⊢
  clear hl hk hI hkn hY hT hchk hln hLN hKN
  obtain ⟨ind, hid, hid1, hid2, hid3⟩ := infoDf_parts
  go_enter Tryz.func19, Tryz.ntmps19
  go_wp2_with fail
  refine (HBL.out).mono ?_
  rintro e w1 ⟨g, H, hg, he, hD, hb1⟩
  rw [HBN.out] at he
  subst he
  have HB1 := Lib.hid hb1
  have HD1 := Lib.hid hD
  clear hb1 HBL hD hg
  go_wp2_with fail
  refine (HNM.out _ HB1.out).mono ?_
  rintro e w2 ⟨bm, nm, rfl, hM, hb2⟩
  have HM2 := Lib.hid hM
  have HD2 := Lib.hid (HD1.out.below hb2)
  have HB2 := Lib.hid (HB1.out.trans (hb2.mono HB1.out.size))
  clear hb2 HNM HB1 hM HD1
  go_wp2_with fail
  refine (HNR.out _ HB2.out).mono ?_
  rintro e w3 ⟨v3, rfl, hO, hb3⟩
  obtain ⟨A4, c4, hv, hc4, hcm4, hR4⟩ := hO.read
  have HM3 := Lib.hid (HM2.out.below hb3)
  have HD3 := Lib.hid (HD2.out.below hb3)
  have HB3 := Lib.hid (HB2.out.trans (hb3.mono HB2.out.size))
  have HT3 := Lib.hid (HT.out.below HB3.out)
  have HR4 := Lib.hid hR4
  rw [HNL.out] at hv
  subst hv
  clear hc4 hcm4 hR4 hO hb3 HNR HB2 HM2 HD2 HT
  have hmz : (m : Int) ≤ 16 := by omega
  have hmy : (0 : Int) ≤ (m : Int) := by omega
  go_wp2_with fail
  go_loopw [10, 35] (fun vo vi wr => ∃ (v1 : Value) (i : Nat) (ds : List Df), v1 = vo ∧ vi = .int .i64 (i : Int) ∧ i ≤ n ∧ OwnDf wr w3.heap.size v1 ds ∧ Below w3.heap.size w3 wr ∧ Hid (ds = (S.take i).flatMap fun x => (List.range (m + 1)).flatMap fun (t : Nat) => dfA l k x (t : Int)) ∧ ds.length ≤ i * 34) (fun _ vi _ => n - (intOf vi).toNat)
  case atStart => exact ⟨_, 0, [], rfl, rfl, by omega, OwnDf.nil _ _, Below.refl _ _, Lib.hid (by simp), by simp⟩
  case round =>
    obtain ⟨v1, i, ds, rfl, rfl, hi, ho1, hB, HL, hlen⟩ := hrel
    by_cases hlt : i < n
    · have i2 : i < S.length := by rw [← HN.out]; exact hlt
      have i3 : i < RN.length := by rw [HNL.out]; exact hlt
      have i4 : i < RB.length := by rw [HBN.out]; exact hlt
      obtain ⟨b, o, e4, hb, f1, A', c', f2, hc', hcm', hlk⟩ := HR4.out.at_ i3
      subst e4
      have hna := HNA.out i i2 i3
      have hba := HBA.out i i2 i4
      have HFM : Hid ((S.take (i + 1)).flatMap (fun x => (List.range (m + 1)).flatMap fun (t : Nat) => dfA l k x (t : Int)) = (S.take i).flatMap (fun x => (List.range (m + 1)).flatMap fun (t : Nat) => dfA l k x (t : Int)) ++ (List.range (m + 1)).flatMap fun (t : Nat) => dfA l k S[i] (t : Int)) := Lib.hid (flat_take _ i2)
      have HXM := Lib.hid (HSM.out _ (List.getElem_mem i2))
      have HGL := Lib.hid HD3.out.outer.lt
      have hlL : RB[i].levels.length = m + 1 := by rw [hba]; simp
      have hnL : RN[i].levels.length = m + 1 := by rw [hna]; simp
      have hHD : w3.cell? ⟨g, i * 2 + 1, none⟩ = some (.slice (some ⟨H i, 0, none⟩) (m + 1) (m + 1)) := by
        have h5 := (HD3.out.head (j := i) i4).2
        rw [hlL] at h5
        exact h5
      have hiL := (HD3.out.inner i i4).2.lt
      have HLV : Hid (∀ t : Nat, t < m + 1 → w3.cell? ⟨H i, t * 2, none⟩ = some (.int .i64 (nbL l S[i].id (t : Int)).left) ∧ w3.cell? ⟨H i, t * 2 + 1, none⟩ = some (.int .i64 (nbL l S[i].id (t : Int)).right)) := Lib.hid fun t ht => by
        have h5 := HD3.out.lev (j := i) (k := t) i4 (by rw [hlL]; exact ht)
        have e5 : RB[i].levels[t]'(by rw [hlL]; exact ht) = nbL l S[i].id (t : Int) := by simp only [hba, List.getElem_map, List.getElem_range]
        rw [e5] at h5
        exact h5
      have HLN : Hid (∀ t : Nat, t < m + 1 → ∃ b5 o5, A' = some ⟨b5, o5, none⟩ ∧ b5 < w3.heap.size ∧ w3.cell? ⟨b5, o5 + t * 2, none⟩ = some (.int .i64 (atV k S[i].id (t : Int)).left) ∧ w3.cell? ⟨b5, o5 + t * 2 + 1, none⟩ = some (.int .i64 (atV k S[i].id (t : Int)).right)) := Lib.hid fun t ht => by
        obtain ⟨b5, o5, e5, hb5, k1, k2⟩ := hlk.at_ (i := t) (by rw [hnL]; exact ht)
        have e6 : RN[i].levels[t]'(by rw [hnL]; exact ht) = atV k S[i].id (t : Int) := by simp only [hna, List.getElem_map, List.getElem_range]
        rw [e6] at k1 k2
        exact ⟨b5, o5, e5, hb5, k1, k2⟩
      rw [hnL] at f2 hc'
      have e7 : RN[i].id = S[i].id := by rw [hna]
      rw [e7] at f1
      generalize S[i] = x at *
      clear hna hba hlk hlL hnL e7 i2 i3 i4
      have i0 : (0 : Int) ≤ (i : Int) := by omega
      have i1 : (i : Int) < (n : Int) := by omega
      have hb5 : ∀ W, Below w3.heap.size w3 W → W.cell? ⟨g, i * 2 + 1, none⟩ = some (.slice (some ⟨H i, 0, none⟩) (m + 1) (m + 1)) := fun W hW => (hW.cell (p := ⟨g, i * 2 + 1, none⟩) HGL.out).trans hHD
      have HEX := Lib.hid hb5
      have F1 := (hB.cell (p := ⟨b, o + i * 2, none⟩) hb).trans f1
      have F2 := (hB.cell (p := ⟨b, o + i * 2 + 1, none⟩) hb).trans f2
      have HO1 := Lib.hid ho1
      have hX := Has.new wr 46 #[.int .i64 x.id, .slice A' (m + 1) c']
      have hbX := (Below.refl wr.heap.size wr).alloc (Nat.le_refl _) (.cells #[.int .i64 x.id, .slice A' (m + 1) c'] 46)
      have HHX := Lib.hid hX
      have HBX := Lib.hid (hB.trans (hbX.mono hB.size))
      have HOX := Lib.hid (ho1.below hbX)
      have HVX := Lib.hid (ho1.ne (Nat.le_refl _))
      obtain ⟨A5, c5, hv5⟩ := ho1.shape
      subst hv5
      obtain ⟨X, hXe⟩ : ∃ X, X = wr.heap.size := ⟨_, rfl⟩
      have HXE : Hid (w3.heap.size ≤ X) := Lib.hid (by rw [hXe]; exact hB.size)
      clear hX hbX hb5 hHD HO1 ho1 hB f1 f2
      go_upto_region 9 with fail
      clear F1 F2
      generalize wr.alloc (.cells #[.int .i64 x.id, .slice A' (m + 1) c'] 46) = WA at *
      rw [← hXe] at HHX HVX ⊢
      clear hXe
      have x1 := HHX.out.cell 1
      go_wp2_with fail
      go_loopw [10, 43] (fun vo vt wz => ∃ (v1 : Value) (t : Nat) (d1 : List Df), v1 = vo ∧ vt = .int .i64 (t : Int) ∧ t ≤ m + 1 ∧ OwnDf wz w3.heap.size v1 d1 ∧ Below w3.heap.size w3 wz ∧ Has wz X 46 #[.int .i64 x.id, .slice A' (m + 1) c'] ∧ v1.ownBlock ≠ some X ∧ Hid (d1 = ds ++ ((List.range (m + 1)).take t).flatMap fun (t : Nat) => dfA l k x (t : Int)) ∧ d1.length ≤ ds.length + t * 2) (fun _ vt _ => m + 1 - (intOf vt).toNat)
      case atStart => exact ⟨_, 0, ds, rfl, rfl, by omega, HOX.out, HBX.out, HHX.out, HVX.out, Lib.hid (by simp), by omega⟩
      case round =>
        clear HOX HBX HHX HVX x1
        obtain ⟨v1, t, d1, rfl, rfl, ht, ho1, hB, hX, hvX, HL1, hlen1⟩ := hrel
        have HVX := Lib.hid hvX
        clear hvX
        by_cases hltt : t < m + 1
        · obtain ⟨b5, o5, e5, hb5, k1, k2⟩ := HLN.out t hltt
          subst e5
          obtain ⟨q1, q2⟩ := HLV.out t hltt
          have HNX : Hid (((List.range (m + 1)).take (t + 1)).flatMap (fun (t : Nat) => dfA l k x (t : Int)) = ((List.range (m + 1)).take t).flatMap (fun (t : Nat) => dfA l k x (t : Int)) ++ dfA l k x (t : Int)) := Lib.hid (by
            have h6 := flat_take (fun (t : Nat) => dfA l k x (t : Int)) (l := List.range (m + 1)) (k := t) (by simpa using hltt)
            rw [h6, List.getElem_range])
          have HDA : Hid (dfA l k x (t : Int) = dfS l x (t : Int) 0 (atV k x.id (t : Int)).left (nbL l x.id (t : Int)).left ++ dfS l x (t : Int) 1 (atV k x.id (t : Int)).right (nbL l x.id (t : Int)).right) := Lib.hid rfl
          have hw2 := HAW.out x.id (t : Int)
          generalize dfA l k x (t : Int) = DA at *
          generalize atV k x.id (t : Int) = hv at *
          generalize nbL l x.id (t : Int) = wv at *
          obtain ⟨hvl, hvr⟩ := hv
          obtain ⟨wvl, wvr⟩ := wv
          simp only at k1 k2 q1 q2 hw2 HDA
          have t0 : (0 : Int) ≤ (t : Int) := by omega
          have t1 : (t : Int) < (m : Int) + 1 := by omega
          have K1 := (hB.cell (p := ⟨b5, o5 + t * 2, none⟩) hb5).trans k1
          have K2 := (hB.cell (p := ⟨b5, o5 + t * 2 + 1, none⟩) hb5).trans k2
          have HQ : Hid (∀ W, Below w3.heap.size w3 W → W.cell? ⟨H i, t * 2, none⟩ = some (.int .i64 wvl) ∧ W.cell? ⟨H i, t * 2 + 1, none⟩ = some (.int .i64 wvr)) := Lib.hid fun W hW => ⟨(hW.cell (p := ⟨H i, t * 2, none⟩) hiL).trans q1, (hW.cell (p := ⟨H i, t * 2 + 1, none⟩) hiL).trans q2⟩
          have HW2 := Lib.hid hw2
          obtain ⟨A5, c5, hv5⟩ := ho1.shape
          subst hv5
          have hbY := (Below.refl wr.heap.size wr).alloc (Nat.le_refl _) (.cells #[.int .i64 hvl, .int .i64 hvr] 49)
          have HY := Lib.hid (Has.new wr 49 #[.int .i64 hvl, .int .i64 hvr])
          have HXY := Lib.hid (hX.below hbY)
          have HBY := Lib.hid (hB.trans (hbY.mono hB.size))
          have HOY := Lib.hid (ho1.below hbY)
          clear hX hB ho1 hbY k1 k2 q1 q2 hw2
          go_upto_region 12 with fail
          clear K1 K2
          generalize wr.alloc (.cells #[.int .i64 hvl, .int .i64 hvr] 49) = WB at *
          have e1 := HEX.out WB HBY.out
          obtain ⟨e2, e3⟩ := HQ.out WB HBY.out
          have hbZ := (Below.refl WB.heap.size WB).alloc (Nat.le_refl _) (.cells #[.int .i64 wvl, .int .i64 wvr] 49)
          have HZ := Lib.hid (Has.new WB 49 #[.int .i64 wvl, .int .i64 wvr])
          have HYZ := Lib.hid (HY.out.below hbZ)
          have HXZ := Lib.hid (HXY.out.below hbZ)
          have HBZ := Lib.hid (HBY.out.trans (hbZ.mono HBY.out.size))
          have HOZ := Lib.hid (HOY.out.below hbZ)
          clear hbZ HY HXY HBY HOY
          go_upto_region 13 with fail
          clear e1 e2 e3
          generalize WB.alloc (.cells #[.int .i64 wvl, .int .i64 wvr] 49) = WC at *
          have x0 := HXZ.out.cell 0
          have y0 := HYZ.out.cell 0
          have z0 := HZ.out.cell 0
          have hb1 := (Below.refl WC.heap.size WC).alloc (Nat.le_refl _) (.cells #[.int .i64 0, .int .i64 x.id, .int .i64 (t : Int), .int .i64 0, .int .i64 hvl, .int .i64 wvl] 52)
          have H1 := Lib.hid (Has.new WC 52 #[.int .i64 0, .int .i64 x.id, .int .i64 (t : Int), .int .i64 0, .int .i64 hvl, .int .i64 wvl])
          have HY1 := Lib.hid (HYZ.out.below hb1)
          have HX1 := Lib.hid (HXZ.out.below hb1)
          have HZ1 := Lib.hid (HZ.out.below hb1)
          have HB1 := Lib.hid (HBZ.out.trans (hb1.mono HBZ.out.size))
          have HO1 := Lib.hid (HOZ.out.below hb1)
          clear hb1 HYZ HXZ HZ HBZ HOZ
          go_upto_region 14 with fail
          clear x0 y0 z0
          generalize WC.alloc (.cells #[.int .i64 0, .int .i64 x.id, .int .i64 (t : Int), .int .i64 0, .int .i64 hvl, .int .i64 wvl] 52) = WD at *
          have x0 := HX1.out.cell 0
          have y0 := HY1.out.cell 1
          have z0 := HZ1.out.cell 1
          have hb1 := (Below.refl WD.heap.size WD).alloc (Nat.le_refl _) (.cells #[.int .i64 0, .int .i64 x.id, .int .i64 (t : Int), .int .i64 1, .int .i64 hvr, .int .i64 wvr] 52)
          have H2 := Lib.hid (Has.new WD 52 #[.int .i64 0, .int .i64 x.id, .int .i64 (t : Int), .int .i64 1, .int .i64 hvr, .int .i64 wvr])
          have H12 := Lib.hid (H1.out.below hb1)
          have HX2 := Lib.hid (HX1.out.below hb1)
          have HB2 := Lib.hid (HB1.out.trans (hb1.mono HB1.out.size))
          have HO2 := Lib.hid (HO1.out.below hb1)
          clear hb1 HY1 HX1 HZ1 HB1 HO1 H1
          go_upto_region 15 with fail
          clear x0 y0 z0
          generalize WD.alloc (.cells #[.int .i64 0, .int .i64 x.id, .int .i64 (t : Int), .int .i64 1, .int .i64 hvr, .int .i64 wvr] 52) = WE at *
          have a0 := H12.out.cell 0
          have a1 := H12.out.cell 1
          have a2 := H12.out.cell 2
          have a3 := H12.out.cell 3
          have a4 := H12.out.cell 4
          have a5 := H12.out.cell 5
          have b0 := H2.out.cell 0
          have b1 := H2.out.cell 1
          have b2 := H2.out.cell 2
          have b3 := H2.out.cell 3
          have b4 := H2.out.cell 4
          have b5' := H2.out.cell 5
          have hb1 := (Below.refl WE.heap.size WE).alloc (Nat.le_refl _) (.cells #[.int .i64 0, .int .i64 x.id, .int .i64 (t : Int), .int .i64 0, .int .i64 hvl, .int .i64 wvl, .int .i64 0, .int .i64 x.id, .int .i64 (t : Int), .int .i64 1, .int .i64 hvr, .int .i64 wvr] 52)
          have HQ3 := Lib.hid (Has.new WE 52 #[.int .i64 0, .int .i64 x.id, .int .i64 (t : Int), .int .i64 0, .int .i64 hvl, .int .i64 wvl, .int .i64 0, .int .i64 x.id, .int .i64 (t : Int), .int .i64 1, .int .i64 hvr, .int .i64 wvr])
          have HX3 := Lib.hid (HX2.out.below hb1)
          have HB3' := Lib.hid (HB2.out.trans (hb1.mono HB2.out.size))
          have HO3 := Lib.hid (HO2.out.below hb1)
          have hZE := HB2.out.size
          have hXZ := HX2.out.lt
          have HO2z := HO2
          clear hb1 HX2 HB2 HO2 H12 H2
          go_wp2_with fail
          obtain ⟨Z, hZe⟩ : ∃ Z, Z = WE.heap.size := ⟨_, rfl⟩
          have HVZ := Lib.hid (HO2z.out.ne (Nat.le_of_eq hZe.symm))
          have HXL : Hid (X < Z) := Lib.hid (by rw [hZe]; exact hXZ)
          rw [← hZe] at HQ3 hZE ⊢
          generalize WE.alloc (.cells #[.int .i64 0, .int .i64 x.id, .int .i64 (t : Int), .int .i64 0, .int .i64 hvl, .int .i64 wvl, .int .i64 0, .int .i64 x.id, .int .i64 (t : Int), .int .i64 1, .int .i64 hvr, .int .i64 wvr] 52) = WF at *
          clear a0 a1 a2 a3 a4 a5 b0 b1 b2 b3 b4 b5' hZe
          generalize hCS : (#[.int .i64 0, .int .i64 x.id, .int .i64 (t : Int), .int .i64 0, .int .i64 hvl, .int .i64 wvl, .int .i64 0, .int .i64 x.id, .int .i64 (t : Int), .int .i64 1, .int .i64 hvr, .int .i64 wvr] : Array Value) = CS at HQ3
          have HQC : Hid (∀ (j : Nat), j < 2 → ∃ (sd hv wv : Int), (sd = 0 ∨ sd = 1) ∧ (-9223372036854775808 ≤ hv ∧ hv ≤ 9223372036854775807) ∧ (∀ W, Has W Z 52 CS → W.cell? ⟨Z, j * 6, none⟩ = some (.int .i64 0) ∧ W.cell? ⟨Z, j * 6 + 1, none⟩ = some (.int .i64 x.id) ∧ W.cell? ⟨Z, j * 6 + 2, none⟩ = some (.int .i64 (t : Int)) ∧ W.cell? ⟨Z, j * 6 + 3, none⟩ = some (.int .i64 sd) ∧ W.cell? ⟨Z, j * 6 + 4, none⟩ = some (.int .i64 hv) ∧ W.cell? ⟨Z, j * 6 + 5, none⟩ = some (.int .i64 wv)) ∧ ([dfS l x (t : Int) 0 hvl wvl, dfS l x (t : Int) 1 hvr wvr].take (j + 1)).flatten = ([dfS l x (t : Int) 0 hvl wvl, dfS l x (t : Int) 1 hvr wvr].take j).flatten ++ dfS l x (t : Int) sd hv wv) := Lib.hid fun j hj => by
            subst hCS
            obtain rfl | rfl : j = 0 ∨ j = 1 := by omega
            · exact ⟨0, hvl, wvl, .inl rfl, HW2.out.1, fun W hW => ⟨hW.cell 0, hW.cell 1, hW.cell 2, hW.cell 3, hW.cell 4, hW.cell 5⟩, by simp⟩
            · exact ⟨1, hvr, wvr, .inr rfl, HW2.out.2, fun W hW => ⟨hW.cell 6, hW.cell 7, hW.cell 8, hW.cell 9, hW.cell 10, hW.cell 11⟩, by simp⟩
          clear hCS
          have HQE : Hid (([dfS l x (t : Int) 0 hvl wvl, dfS l x (t : Int) 1 hvr wvr].take 2).flatten = DA) := Lib.hid (by rw [HDA.out]; simp)
          have HQ0 : Hid (([dfS l x (t : Int) 0 hvl wvl, dfS l x (t : Int) 1 hvr wvr].take 0).flatten = []) := Lib.hid (by simp)
          generalize [dfS l x (t : Int) 0 hvl wvl, dfS l x (t : Int) 1 hvr wvr] = DL at *
          go_loopw [10, 76] (fun vo vj wy => ∃ (v1 : Value) (j : Nat) (d2 : List Df), v1 = vo ∧ vj = .int .i64 (j : Int) ∧ j ≤ 2 ∧ OwnDf wy w3.heap.size v1 d2 ∧ Below w3.heap.size w3 wy ∧ Has wy X 46 #[.int .i64 x.id, .slice (some ⟨b5, o5, none⟩) (m + 1) c'] ∧ Has wy Z 52 CS ∧ v1.ownBlock ≠ some X ∧ v1.ownBlock ≠ some Z ∧ Hid (d2 = d1 ++ (DL.take j).flatten) ∧ d2.length ≤ d1.length + j) (fun _ vj _ => 2 - (intOf vj).toNat)
          case atStart => exact ⟨_, 0, d1, rfl, rfl, by omega, HO3.out, HB3'.out, HX3.out, HQ3.out, HVX.out, HVZ.out, Lib.hid (by rw [HQ0.out, List.append_nil]), by omega⟩
          case round =>
            clear HO3 HVX HVZ HX3 HQ3
            obtain ⟨v1, j, d2, rfl, rfl, hj, ho1, hB, hX3, hQ3, hvX, hvZ, HL2, hlen2⟩ := hrel
            have HX3 := Lib.hid hX3
            have HQ3 := Lib.hid hQ3
            have HVX := Lib.hid hvX
            have HVZ := Lib.hid hvZ
            clear hX3 hQ3 hvX hvZ
            by_cases hltj : j < 2
            · obtain ⟨sd, hv, wv, hsd, hhv, hcell, hdd⟩ := HQC.out j hltj
              obtain ⟨m0, m1, m2, m3, m4, m5⟩ := hcell wr HQ3.out
              have HDD := Lib.hid hdd
              have j0 : (0 : Int) ≤ (j : Int) := by omega
              have j1 : (j : Int) < 2 := by omega
              have hbD := (Below.refl wr.heap.size wr).alloc (Nat.le_refl _) (.cells #[.int .i64 0, .int .i64 x.id, .int .i64 (t : Int), .int .i64 sd, .int .i64 hv, .int .i64 wv] 52)
              have HD0 := Lib.hid (Has.new wr 52 #[.int .i64 0, .int .i64 x.id, .int .i64 (t : Int), .int .i64 sd, .int .i64 hv, .int .i64 wv])
              have HBD := Lib.hid hbD
              have HBW := Lib.hid hB
              have HO1 := Lib.hid ho1
              have hld : d2.length < 1000000 := by omega
              have hwz : w3.heap.size ≤ wr.heap.size := hB.size
              obtain ⟨A6, c6, hv6⟩ := ho1.shape
              subst hv6
              clear hbD hB ho1 hcell hdd
              go_upto_region 18 with fail
              generalize wr.alloc (.cells #[.int .i64 0, .int .i64 x.id, .int .i64 (t : Int), .int .i64 sd, .int .i64 hv, .int .i64 wv] 52) = WG at *
              have n0 := HD0.out.cell 0
              have n1 := HD0.out.cell 1
              have n2 := HD0.out.cell 2
              have n3 := HD0.out.cell 3
              have n4 := HD0.out.cell 4
              have n5 := HD0.out.cell 5
              clear m0 m1 m2 m3 m4 m5
              by_cases hne : hv = wv
              · have hz : (hv != wv) = false := by simpa using hne
                have HDZ : Hid (dfS l x (t : Int) sd hv wv = []) := Lib.hid (by unfold dfS; rw [if_pos hne])
                have HOG := Lib.hid (HO1.out.below HBD.out)
                clear hne
                go_wp2_with fail
                exact ⟨⟨_, j + 1, d2, rfl, by go_num, by omega, HOG.out, HBW.out.trans (HBD.out.mono HBW.out.size), HX3.out.below HBD.out, HQ3.out.below HBD.out, HVX.out, HVZ.out, Lib.hid (by rw [HL2.out, HDD.out, HDZ.out, List.append_nil]), by omega⟩, by simp [intOf]; omega⟩
              · have hz : (hv != wv) = true := by simpa using hne
                have HDZ : Hid (dfS l x (t : Int) sd hv wv = [⟨kndV l x hv (t : Int) sd, x.id, (t : Int), sd, hv, wv⟩]) := Lib.hid (by unfold dfS; rw [if_neg hne])
                have HKW := Lib.hid (HBW.out.trans (HBD.out.mono HBW.out.size))
                have HK1 := Lib.hid (HKD.out bm nm ⟨0, x.id, (t : Int), sd, hv, wv⟩ x WG HXM.out rfl hhv hsd (HM3.out.below HKW.out) (HT3.out.below HKW.out))
                simp only [Df.val] at HK1
                generalize kndV l x hv (t : Int) sd = KV at *
                clear hne hsd hhv
                go_upto_region 19 with fail
                go_wp2_with fail
                refine (HK1.out).mono ?_
                rintro e w6 ⟨rfl, hb6⟩
                have hD6 := HD0.out.below hb6
                have p0 := hD6.cell 0
                have q0 := fun o => hD6.frozen o
                have HH := Lib.hid (Has.set_ hD6 0 (.int .i64 KV))
                have HBH := Lib.hid ((HBD.out.trans (hb6.mono HBD.out.size)).setCell (p := ⟨wr.heap.size, 0, none⟩) (Nat.le_refl _) (.int .i64 KV))
                clear n0 n1 n2 n3 n4 n5 HK1 HD0 hD6
                go_upto_region 20 with fail
                generalize w6.setCell ⟨wr.heap.size, 0, none⟩ (.int .i64 KV) = WH at *
                have n0 : WH.cell? ⟨wr.heap.size, 0, none⟩ = some (.int .i64 KV) := HH.out.cell 0
                have n1 : WH.cell? ⟨wr.heap.size, 1, none⟩ = some (.int .i64 x.id) := HH.out.cell 1
                have n2 : WH.cell? ⟨wr.heap.size, 2, none⟩ = some (.int .i64 (t : Int)) := HH.out.cell 2
                have n3 : WH.cell? ⟨wr.heap.size, 3, none⟩ = some (.int .i64 sd) := HH.out.cell 3
                have n4 : WH.cell? ⟨wr.heap.size, 4, none⟩ = some (.int .i64 hv) := HH.out.cell 4
                have n5 : WH.cell? ⟨wr.heap.size, 5, none⟩ = some (.int .i64 wv) := HH.out.cell 5
                have hOH := HO1.out.below HBH.out
                have hwh : w3.heap.size ≤ WH.heap.size := Nat.le_trans hwz HBH.out.size
                have HOB := Lib.hid hOH
                clear hOH p0 q0 hb6
                go_wp2_with (at_builtin; refine wpList_pushDf rfl _ _ 40 rfl w3.heap.size ind Tryz.underlying40 hid hid1 hid2 hid3 (.slice A6 d2.length c6) d2 WH ⟨KV, x.id, (t : Int), sd, hv, wv⟩ rfl HOB.out rfl hld hwh ?_; intro v9 w9 ho9 hb9 hkp hat; have hx9 := (hkp X (Nat.lt_of_lt_of_le HX3.out.lt HBH.out.size) HVX.out).trans (HX3.out.below HBH.out); have hq9 := (hkp Z (Nat.lt_of_lt_of_le HQ3.out.lt HBH.out.size) HVZ.out).trans (HQ3.out.below HBH.out); have hv9x : v9.ownBlock ≠ some X := (by rcases hat with e | ⟨kk, e1, e2⟩; (rw [e]; exact HVX.out); (rw [e2]; intro e3; have := Option.some.inj e3; have := HX3.out.lt; have := HBH.out.size; omega)); have hv9z : v9.ownBlock ≠ some Z := (by rcases hat with e | ⟨kk, e1, e2⟩; (rw [e]; exact HVZ.out); (rw [e2]; intro e3; have := Option.some.inj e3; have := HQ3.out.lt; have := HBH.out.size; omega)); have HX9 := Lib.hid hx9; have HQ9 := Lib.hid hq9; have HV9X := Lib.hid hv9x; have HV9Z := Lib.hid hv9z; clear hx9 hq9 hv9x hv9z hat hkp; obtain ⟨lw, hlw⟩ : ∃ lw, lw = d2 ++ [(⟨KV, x.id, (t : Int), sd, hv, wv⟩ : Df)] := ⟨_, rfl⟩; rw [← hlw] at ho9; have hlwn : lw.length = d2.length + 1 := (by rw [hlw]; simp); have HLW := Lib.hid hlw; have HLNN := Lib.hid hlwn; have HO9 := Lib.hid ho9; have HB9 := Lib.hid ((HBW.out.trans (HBH.out.mono HBW.out.size)).trans hb9); clear hlw hlwn; obtain ⟨A9, c9, hv9⟩ := ho9.shape; subst hv9; clear ho9 hb9)
                exact ⟨⟨_, j + 1, lw, rfl, by go_num, by omega, HO9.out, HB9.out, HX9.out, HQ9.out, HV9X.out, HV9Z.out, Lib.hid (by rw [HLW.out, HL2.out, HDD.out, HDZ.out, List.append_assoc]), by have := HLNN.out; omega⟩, by simp [intOf]; omega⟩
            · have ej : j = 2 := by omega
              subst ej
              have HO := Lib.hid ho1
              have HBF := Lib.hid hB
              obtain ⟨A6, c6, hv6⟩ := ho1.shape
              subst hv6
              clear ho1 hB
              go_wp2_with fail
              exact ⟨⟨_, t + 1, d2, rfl, by go_num, by omega, HO.out, HBF.out, HX3.out, HVX.out, Lib.hid (by rw [HL2.out, HL1.out, HNX.out, HQE.out, List.append_assoc]), by omega⟩, by simp [intOf]; omega⟩
        · have et : t = m + 1 := by omega
          subst et
          have tz : ¬ ((m : Int) + 1 < (m : Int) + 1) := by omega
          have HO := Lib.hid ho1
          obtain ⟨A5, c5, hv5⟩ := ho1.shape
          subst hv5
          clear ho1 hX
          go_wp2_with fail
          refine ⟨⟨_, i + 1, d1, rfl, by go_num, hlt, HO.out, hB, Lib.hid ?_, ?_⟩, by simp [intOf]; omega⟩
          · have h8 : (List.range (m + 1)).take (m + 1) = List.range (m + 1) := List.take_of_length_le (by simp)
            rw [HL1.out, HL.out, HFM.out, h8]
          · have := hlen1
            omega
    · have HLE : Hid (ds = R) := Lib.hid (by rw [HL.out, HCD.out, List.take_of_length_le (by have := HN.out; omega)])
      have HO := Lib.hid (ho1.low (show w.heap.size ≤ w3.heap.size from HB3.out.size))
      have HBF := Lib.hid (HB3.out.trans (hB.mono HB3.out.size))
      obtain ⟨A5, c5, hv5⟩ := ho1.shape
      subst hv5
      clear ho1 hB
      go_wp2_with fail
      go_ret
      rw [← HLE.out]
      exact ⟨_, rfl, HO.out, HBF.out⟩
def ichkR (l : List Nd) (k : List Ld) (h : Int) : List Df := if chkV l = 0 ∧ lvB h = true then chkD l k (h + 1).toNat else []
set_option maxRecDepth 100000 in
set_option maxHeartbeats 800000 in
theorem icheck_any (A A2 : Option Addr) (l : List Nd) (k : List Ld) (c c2 : Nat) (h : Int) (w : World) (hl : Nds w w.heap.size A l) (hk : Lds w w.heap.size A2 k) (hI : ∀ x ∈ k, -9223372036854775808 ≤ x.id ∧ x.id ≤ 9223372036854775807) (hkn : k.length ≤ maxLen) (hY : ∀ x ∈ k, ∀ y ∈ x.levels, (-9223372036854775808 ≤ y.left ∧ y.left ≤ 9223372036854775807) ∧ (-9223372036854775808 ≤ y.right ∧ y.right ≤ 9223372036854775807)) (hT : Deb w) (hwd : ∀ x ∈ l, x.word < 4294967296) :
    Calls Tryz.prog 19 #[.slice A l.length c, .slice A2 k.length c2, .int .i64 h] w (DfsP (ichkR l k h) w) := by
  by_cases hE : bldE l h = 0
  · have hchk : chkV l = 0 ∧ lvB h = true := by
      unfold bldE at hE
      split at hE
      · split at hE
        · exact ⟨by assumption, by assumption⟩
        · cases hE
      · cases hE
    have h2 : 0 ≤ h ∧ h ≤ 16 := by simpa [lvB] using hchk.2
    obtain ⟨m, rfl⟩ := Int.eq_ofNat_of_zero_le h2.1
    have e : ichkR l k (m : Int) = chkD l k (m + 1) := by unfold ichkR; rw [if_pos hchk, show ((m : Int) + 1).toNat = m + 1 by omega]
    rw [e]
    exact icheck_ok A A2 l k c c2 m w hl hk hI hkn hY hT hchk.1 (by omega)
  · have hR : ichkR l k h = [] := by
      unfold ichkR
      rw [if_neg]
      rintro ⟨h1, h2⟩
      exact hE (by unfold bldE; rw [if_pos h1, if_pos h2])
    rw [hR]
    have HB := Lib.hid (build_any A l c h w hl hwd)
    unfold BldP at HB
    generalize bldE l h = E at *
    generalize bldV l (h + 1).toNat = RR at *
    have hz : (E != 0) = true := by simpa using hE
    have HE := Lib.hid hE
    clear hl hk hI hkn hY hT hwd hR hE
    go_enter Tryz.func19, Tryz.ntmps19
    go_wp2_with fail
    refine (HB.out).mono ?_
    rintro e w1 (⟨_, rfl, hb1⟩ | ⟨hE, _⟩)
    · go_wp2_with fail
      go_ret
      exact ⟨_, rfl, OwnDf.nil _ _, hb1⟩
    · exact absurd hE HE.out
end
end Go.Proofs.YteepijefbdbhoaaGreatDoor
