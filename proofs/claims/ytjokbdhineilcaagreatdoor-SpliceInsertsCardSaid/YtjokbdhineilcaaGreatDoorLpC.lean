/-
  Exact, isBeside and kind of package inspect. Conditions: what is read can be read.
  Rows of defects; Check of package inspect. Conditions: the nodes and links can be read; the table of trailing zeros lies as its initialiser lays it.
  Check of package inspect. Conditions: the nodes and links can be read; the table of trailing zeros lies as its initialiser lays it.
-/
import Derived.Test.YtjokbdhineilcaaGreatDoorLpA
import Derived.Test.YtjokbdhineilcaaGreatDoorKnE
import Derived.Test.YtjokbdhineilcaaGreatDoorKdN
namespace Go.Proofs.YtjokbdhineilcaaGreatDoor
section
open Go.RowKit

def exaB (l : List Nd) (k : List Ld) (h : Int) : Bool := decide (bldE l h = 0) && decide (k = bldV l (h + 1).toNat)
set_option maxRecDepth 100000 in
set_option maxHeartbeats 800000 in
theorem exact_any (A A2 : Option Addr) (l : List Nd) (k : List Ld) (c c2 : Nat) (h : Int) (w : World) (hl : Nds w w.heap.size A l) (hk : Lds w w.heap.size A2 k) (hkn : k.length ≤ maxLen) (hwd : ∀ x ∈ l, x.word < 4294967296) :
    Calls Tryz.prog 27 #[.slice A l.length c, .slice A2 k.length c2, .int .i64 h] w (BoolN (exaB l k h) w) := by
  have HB := Lib.hid (build_any A l c h w hl hwd)
  have HS := Lib.hid (fun (W : World) (j : Below w.heap.size w W) (A3 : Option Addr) (R : List Ld) (c3 : Nat) (h3 : Lds W W.heap.size A3 R) => same6_any A2 A3 k R c2 c3 W ((hk.below j).more j.size) h3 hkn)
  have HE0 : Hid (bldE l h ≠ 0 → exaB l k h = false) := Lib.hid fun e => by unfold exaB; simp [e]
  have HE1 : Hid (bldE l h = 0 → exaB l k h = decide (k = bldV l (h + 1).toNat)) := Lib.hid fun e => by unfold exaB; simp [e]
  have HRL : Hid (∀ x ∈ bldV l (h + 1).toNat, bldE l h = 0 → x.levels.length ≤ maxLen) := Lib.hid fun x hx e => by
    rw [bld_lev l _ x hx]
    have hlv : lvB h = true := by
      unfold bldE at e
      split at e
      · split at e
        · assumption
        · cases e
      · cases e
    have h2 : 0 ≤ h ∧ h ≤ 16 := by simpa [lvB] using hlv
    unfold maxLen
    omega
  generalize exaB l k h = Z at *
  unfold BldP at HB
  generalize bldE l h = E at *
  generalize bldV l (h + 1).toNat = R at *
  obtain ⟨KN, hKN⟩ : ∃ KN, KN = k.length := ⟨_, rfl⟩
  rw [← hKN] at HS ⊢
  clear hl hk hkn hwd hKN
  go_enter Tryz.func27, Tryz.ntmps27
  go_wp2_with fail
  refine (HB.out).mono ?_
  rintro e w1 (⟨hE, rfl, hb1⟩ | ⟨hE, g, H, hg, rfl, hD, hb1⟩)
  · have hz : (E == 0) = false := by simpa using hE
    have HZ := Lib.hid (HE0.out hE)
    clear hE
    go_wp2_with fail
    go_ret
    exact ⟨ret_bool HZ.out.symm, hb1⟩
  · subst hE
    have HR := Lib.hid (hD.read fun x hx => HRL.out x hx rfl)
    have HB1 := Lib.hid hb1
    have HZ := Lib.hid (HE1.out rfl)
    have HSS := Lib.hid (HS.out w1 hb1 (some ⟨g, 0, none⟩) R R.length HR.out)
    clear hD hb1 hg HS HE0 HE1 HRL
    go_wp2_with fail
    refine (HSS.out).mono ?_
    rintro e w2 ⟨rfl, hb2⟩
    have HB2 := Lib.hid (HB1.out.trans (hb2.mono HB1.out.size))
    clear hb2
    go_wp2_with fail
    go_ret
    exact ⟨ret_bool HZ.out.symm, HB2.out⟩
/-- Whether a key is on a side of another one. -/
def besB (x y : Nd) (side : Int) : Bool := if side = 0 then kl y.key x.key else kl x.key y.key
theorem gtr_kl (a b : ByteArray) : (!(Op.bytesLess a.toList b.toList || a.toList == b.toList)) = kl b a := by
  show (!(kl a b || a.toList == b.toList)) = kl b a
  cases h1 : kl a b
  · by_cases h2 : a.toList = b.toList
    · have := toList_inj h2
      subst this
      simp [kl_irrefl]
    · cases h3 : kl b a
      · exact absurd (by rw [kl_tri h1 h3]) h2
      · simp [h2]
  · rw [kl_asymm h1]
    rfl
theorem ndF_no {l : List Nd} {i : Int} (h : ¬ plc l i < l.length) : ndF l i = none := by
  unfold ndF
  rw [List.find?_eq_none.2 fun x hx => ?_]
  · rfl
  · have := mt (fun e : x.id = i => plc_found.2 ⟨x, List.mem_reverse.1 hx, e⟩) h
    simpa using this
theorem ndF_self {l : List Nd} (ha : l.Pairwise Nd.apart) {x : Nd} (hx : x ∈ l) : ndF l x.id = some x.val := by
  unfold ndF
  cases hf : l.reverse.find? fun y => decide (y.id = x.id) with
  | none =>
    have := List.find?_eq_none.1 hf x (List.mem_reverse.2 hx)
    simp at this
  | some y =>
    have h1 := List.mem_reverse.1 (List.mem_of_find?_eq_some hf)
    have h2 := List.find?_some hf
    rw [id_uniq ha h1 hx (by simpa using h2)]
    rfl
theorem ndF_yes {l : List Nd} (ha : l.Pairwise Nd.apart) {i : Int} (h : plc l i < l.length) : ndF l i = some (fndV l i).val ∧ fndV l i ∈ l := by
  obtain ⟨x, hx, rfl⟩ := plc_found.1 h
  rw [fnd_self ha hx]
  exact ⟨ndF_self ha hx, hx⟩
def zN : Value := .agg #[.int .i64 0, .string ByteArray.empty, .int .u32 0]
def Df.val (d : Df) : Value := .agg #[.int .i64 d.kind, .int .i64 d.id, .int .i64 d.level, .int .i64 d.side, .int .i64 d.have_, .int .i64 d.want]
theorem knd_side {l : List Nd} {x : Nd} {hv t side : Int} (h0 : hv ≠ 0) (h1 : plc l hv < l.length) (hs : side = 0 ∨ side = 1) : kndV l x hv t side = if besB x (fndV l hv) side = false then 2 else if t ≤ (cm x.word (fndV l hv).word : Int) then 5 else 3 := by
  unfold kndV besB
  rw [if_neg h0, if_pos h1]
  rcases hs with rfl | rfl
  · simp
  · simp
end
section
open Go.RowKit

def Df.cells (d : Df) : List Value := [.int .i64 d.kind, .int .i64 d.id, .int .i64 d.level, .int .i64 d.side, .int .i64 d.have_, .int .i64 d.want]
/-- A row of defects of the call's own. -/
def flatDf (l : List Df) : List Value := l.flatMap Df.cells
theorem flatDf_len (l : List Df) : (flatDf l).length = l.length * 6 := by
  induction l with
  | nil => rfl
  | cons x l ih => show (_ ++ flatDf l).length = _; rw [List.length_append, ih]; simp [Df.cells]; omega
theorem flatDf_snoc (l : List Df) (f : Df) : flatDf (l ++ [f]) = flatDf l ++ f.cells := by simp [flatDf]
theorem flatDf_at : ∀ (l : List Df) (i : Nat) (h : i < l.length) (j : Nat), j < 6 → (flatDf l)[i * 6 + j]? = l[i].cells[j]?
  | [], _, h, _, _ => by simp at h
  | f :: l, 0, _, j, hj => by
    show (f.cells ++ flatDf l)[0 * 6 + j]? = f.cells[j]?
    rw [List.getElem?_append_left (by simp [Df.cells]; omega), Nat.zero_mul, Nat.zero_add]
  | f :: l, i + 1, h, j, hj => by
    have := flatDf_at l i (by simpa using h) j hj
    show (f.cells ++ flatDf l)[(i + 1) * 6 + j]? = _
    rw [List.getElem?_append_right (by simp [Df.cells]; omega)]
    rw [show (i + 1) * 6 + j - f.cells.length = i * 6 + j by simp [Df.cells]; omega]
    exact this
/-- Slices of defects below block B, as they are read. -/
def Dfs (w : World) (B : Nat) (A : Option Addr) (l : List Df) : Prop :=
  l ≠ [] → ∃ b o, A = some ⟨b, o, none⟩ ∧ b < B ∧ ∀ i (h : i < l.length) (j : Nat), j < 6 → w.cell? ⟨b, o + (i * 6 + j), none⟩ = l[i].cells[j]?
theorem Dfs.below {w w' : World} {B : Nat} {A : Option Addr} {l : List Df} (h : Dfs w B A l) (k : Below B w w') : Dfs w' B A l := fun hn => by
  obtain ⟨b, o, e, hb, hc⟩ := h hn
  exact ⟨b, o, e, hb, fun i hi j hj => (World.cell?_of_block (k.block b hb)).trans (hc i hi j hj)⟩
theorem Dfs.more {w : World} {B B' : Nat} {A : Option Addr} {l : List Df} (h : Dfs w B A l) (hB : B ≤ B') : Dfs w B' A l := fun hn => by
  obtain ⟨b, o, e, hb, hc⟩ := h hn
  exact ⟨b, o, e, by omega, hc⟩
theorem atV_wide {k : List Ld} (h : ∀ x ∈ k, ∀ y ∈ x.levels, (-9223372036854775808 ≤ y.left ∧ y.left ≤ 9223372036854775807) ∧ (-9223372036854775808 ≤ y.right ∧ y.right ≤ 9223372036854775807)) (i t : Int) : (-9223372036854775808 ≤ (atV k i t).left ∧ (atV k i t).left ≤ 9223372036854775807) ∧ (-9223372036854775808 ≤ (atV k i t).right ∧ (atV k i t).right ≤ 9223372036854775807) := by
  have hz : ((-9223372036854775808 : Int) ≤ (⟨0, 0⟩ : Lk).left ∧ (⟨0, 0⟩ : Lk).left ≤ 9223372036854775807) ∧ (-9223372036854775808 ≤ (⟨0, 0⟩ : Lk).right ∧ (⟨0, 0⟩ : Lk).right ≤ 9223372036854775807) := by decide
  unfold atV
  split
  · exact hz
  · rename_i x hx
    have hm := List.mem_of_find?_eq_some hx
    split
    · cases hg : x.levels[t.toNat]? with
      | none => exact hz
      | some y => exact h x hm y (List.mem_of_getElem? hg)
    · exact hz
theorem dfS_len (l : List Nd) (x : Nd) (t side hv wt : Int) : (dfS l x t side hv wt).length ≤ 1 := by
  unfold dfS
  split <;> simp
theorem dfA_len (l : List Nd) (k : List Ld) (x : Nd) (t : Int) : (dfA l k x t).length ≤ 2 := by
  unfold dfA
  have h1 := dfS_len l x t 0 (atV k x.id t).left (nbL l x.id t).left
  have h2 := dfS_len l x t 1 (atV k x.id t).right (nbL l x.id t).right
  rw [List.length_append]
  omega
theorem nrmV_at {l : List Nd} {k : List Ld} {n i : Nat} (h : i < (srt l).length) (h2 : i < (nrmV l k n).length) : (nrmV l k n)[i] = ⟨(srt l)[i].id, (List.range n).map fun (t : Nat) => atV k (srt l)[i].id (t : Int)⟩ := by simp [nrmV]
theorem bldV_at {l : List Nd} (hc : chkV l = 0) {n i : Nat} (hn : n ≤ 17) (h : i < (srt l).length) (h2 : i < (bldV l n).length) : (bldV l n)[i] = ⟨(srt l)[i].id, (List.range n).map fun (t : Nat) => nbL l (srt l)[i].id (t : Int)⟩ := by
  simp only [bld_nb hc hn, List.getElem_map]
end
section
open Go.RowKit

def ichkR (l : List Nd) (k : List Ld) (h : Int) : List Df := if chkV l = 0 ∧ lvB h = true then chkD l k (h + 1).toNat else []
end
end Go.Proofs.YtjokbdhineilcaaGreatDoor
