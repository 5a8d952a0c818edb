/-
  isLevel and numbers of package ideal; rows of rows of numbers: as they are read, and the call's own. Conditions: what is read can be read.
  Height, Neighbours and Lists of package ideal. Condition: the nodes can be read.
-/
import Derived.Test.YtddcfiiahahkbaaDoorLmA
import Derived.Test.YtddcfiiahahkbaaDoorKhU
import Derived.Test.YtddcfiiahahkbaaDoorLhE
namespace Go.Proofs.YtddcfiiahahkbaaDoor
section
open Go.RowKit

theorem isLevel_any (h : Int) (w : World) : Calls Tryd.prog 57 #[.int .i64 h] w fun e w' => e = .returned (.bool (lvB h)) ∧ w = w' := by
  have HL : Hid (lvB h = (decide (0 ≤ h) && decide (h ≤ 16))) := Lib.hid rfl
  generalize lvB h = Z at *
  by_cases h1 : 0 ≤ h
  · by_cases h2 : h ≤ 16
    · have HZ : Hid (Z = true) := Lib.hid (by rw [HL.out]; simp [h1, h2])
      go_enter Tryd.func57, Tryd.ntmps57
      go_wp2_with fail
      go_ret
      exact ⟨ret_bool HZ.out.symm, rfl⟩
    · have HZ : Hid (Z = false) := Lib.hid (by rw [HL.out]; simp [h2])
      go_enter Tryd.func57, Tryd.ntmps57
      go_wp2_with fail
      go_ret
      exact ⟨ret_bool HZ.out.symm, rfl⟩
  · have HZ : Hid (Z = false) := Lib.hid (by rw [HL.out]; simp [h1])
    go_enter Tryd.func57, Tryd.ntmps57
    go_wp2_with fail
    go_ret
    exact ⟨ret_bool HZ.out.symm, rfl⟩

/-- A row of numbers in new memory. -/
def IdsP (l : List Int) (w : World) (e : Ending) (w' : World) : Prop := ∃ A c, e = .returned (.slice A l.length c) ∧ OwnZ w' w.heap.size (.slice A l.length c) l ∧ Below w.heap.size w w'
set_option maxRecDepth 100000 in
set_option maxHeartbeats 1600000 in
theorem numbers_any (A : Option Addr) (l : List Nd) (c : Nat) (w : World) (hl : Nds w w.heap.size A l) (hn : l.length ≤ 1000) (hwd : ∀ x ∈ l, x.wide) :
    Calls Tryd.prog 63 #[.slice A l.length c] w (IdsP (l.map Nd.id) w) := by
  obtain ⟨inf, hif, hif1, hif2, hif3⟩ := infoI_parts
  go_enter Tryd.func63, Tryd.ntmps63
  go_wp2_with fail
  go_loopw [3, 8] (fun b i wr => ∃ (v1 : Value) (k : Nat) (l1 : List Int), v1 = b ∧ k ≤ l.length ∧ i = .int .i64 (k : Int) ∧ OwnZ wr w.heap.size v1 l1 ∧ Below w.heap.size w wr ∧ Hid (l1 = (l.take k).map Nd.id) ∧ l1.length = k) (fun _ i _ => l.length - (intOf i).toNat)
  case atStart => exact ⟨_, 0, [], rfl, by omega, rfl, OwnZ.nil _ _, Below.refl _ _, Lib.hid (by simp), rfl⟩
  case round =>
    obtain ⟨v1, k, l1, rfl, hk, rfl, ho1, hB, HL, hlen⟩ := hrel
    by_cases hlt : k < l.length
    · obtain ⟨b, o, hA2, hb, f1, f2, f3⟩ := hl.at_ hlt
      subst hA2
      have hyw := (hwd _ (List.getElem_mem hlt)).1
      have HT : Hid ((l.take (k + 1)).map Nd.id = (l.take k).map Nd.id ++ [l[k].id]) := Lib.hid (by rw [List.take_succ_eq_append_getElem hlt, List.map_append]; rfl)
      replace f1 := (hB.cell (p := ⟨b, o + k * 3, none⟩) hb).trans f1
      replace f2 := (hB.cell (p := ⟨b, o + k * 3 + 1, none⟩) hb).trans f2
      replace f3 := (hB.cell (p := ⟨b, o + k * 3 + 2, none⟩) hb).trans f3
      generalize l[k] = y at *
      obtain ⟨yi, yk, yw⟩ := y
      have i0 : (0 : Int) ≤ (k : Int) := by omega
      have i1 : (k : Int) < (l.length : Int) := by omega
      have hoa := ho1.below ((Below.refl _ _).alloc (Nat.le_refl _) (.cells #[.int .i64 yi, .string yk, .int .u32 (yw : Int)] 39))
      have hBa := hB.alloc hB.size (.cells #[.int .i64 yi, .string yk, .int .u32 (yw : Int)] 39)
      have hX := Has.new wr 39 #[.int .i64 yi, .string yk, .int .u32 (yw : Int)]
      have x0 := hX.cell 0
      have x1 := hX.cell 1
      have x2 := hX.cell 2
      obtain ⟨A3, c3, hv3, hnd⟩ := ho1.read
      clear hnd ho1 hX
      subst hv3
      go_wp2_with (at_builtin; refine wpList_pushZ rfl _ _ 22 rfl w.heap.size inf Tryd.underlying22 hif hif1 hif2 hif3 (.slice A3 l1.length c3) l1 _ yi hyw rfl hoa (by rw [World.size_alloc]; rfl) (by omega) hBa.size ?_; intro v2 w6 ho6 hb6; obtain ⟨l2, hl2⟩ : ∃ l2, l2 = l1 ++ [yi] := ⟨_, rfl⟩; rw [← hl2] at ho6; have hln2 : l2.length = l1.length + 1 := (by rw [hl2]; simp); have HL2 := Lib.hid hl2; have HLN := Lib.hid hln2; clear hl2 hln2; obtain ⟨A4, c4, rfl, -⟩ := ho6.read)
      exact ⟨⟨_, k + 1, l2, rfl, hlt, by go_num, ho6, hBa.trans hb6, Lib.hid (by rw [HL2.out, HL.out, HT.out]), by rw [HLN.out, hlen]⟩, by simp [intOf]; omega⟩
    · have hL2 : l1 = l.map Nd.id := by rw [HL.out, List.take_of_length_le (by omega)]
      obtain ⟨A3, c3, rfl, -⟩ := ho1.read
      have HL2 := Lib.hid hL2
      clear hL2 HL
      go_wp2_with fail
      go_ret
      rw [← HL2.out]
      exact ⟨A3, c3, rfl, ho1, hB⟩

/-- Rows of rows of numbers below block B, as they are read. -/
def RwI (w : World) (B : Nat) (A : Option Addr) (ls : List (List Int)) : Prop :=
  ls ≠ [] → ∃ b o, A = some ⟨b, o, none⟩ ∧ b < B ∧ ∀ i (h : i < ls.length), ∃ Ai ci, w.cell? ⟨b, o + i, none⟩ = some (.slice Ai ls[i].length ci) ∧ Ins w B Ai ls[i]
theorem RwI.keep {w w' : World} {B : Nat} {A : Option Addr} {ls : List (List Int)} (h : RwI w B A ls) (k : ∀ i, i < B → w'.heap[i]? = w.heap[i]?) : RwI w' B A ls := fun hn => by
  obtain ⟨b, o, e, hb, hc⟩ := h hn
  refine ⟨b, o, e, hb, fun i hi => ?_⟩
  obtain ⟨Ai, ci, h1, h2⟩ := hc i hi
  exact ⟨Ai, ci, (World.cell?_of_block (k b hb)).trans h1, h2.keep k⟩
theorem RwI.more {w : World} {B B' : Nat} {A : Option Addr} {ls : List (List Int)} (h : RwI w B A ls) (hB : B ≤ B') : RwI w B' A ls := fun hn => by
  obtain ⟨b, o, e, hb, hc⟩ := h hn
  refine ⟨b, o, e, by omega, fun i hi => ?_⟩
  obtain ⟨Ai, ci, h1, h2⟩ := hc i hi
  exact ⟨Ai, ci, h1, h2.more hB⟩
theorem RwI.below {w w' : World} {B : Nat} {A : Option Addr} {ls : List (List Int)} (h : RwI w B A ls) (k : Below B w w') : RwI w' B A ls := h.keep k.block
theorem RwI.at_ {w : World} {B : Nat} {A : Option Addr} {ls : List (List Int)} (h : RwI w B A ls) {i : Nat} (hi : i < ls.length) : ∃ b o Ai ci, A = some ⟨b, o, none⟩ ∧ b < B ∧ w.cell? ⟨b, o + i, none⟩ = some (.slice Ai ls[i].length ci) ∧ Ins w B Ai ls[i] := by
  obtain ⟨b, o, e, hb, hc⟩ := h (by intro e; rw [e] at hi; simp at hi)
  obtain ⟨Ai, ci, h1, h2⟩ := hc i hi
  exact ⟨b, o, Ai, ci, e, hb, h1, h2⟩
theorem Ins.kept {w w' : World} {B : Nat} {A : Option Addr} {l : List Int} {row : Option Nat} (h : Ins w B A l) (hB : B ≤ w.heap.size) (hg : w.grownBy w' row) (hne : ∀ b o, A = some ⟨b, o, none⟩ → some b ≠ row) : Ins w' B A l := fun hn => by
  obtain ⟨b, o, e, hb, hc⟩ := h hn
  exact ⟨b, o, e, hb, fun i hi => ⟨(hc i hi).1, (World.cell?_of_block (hg.block b (by omega) (hne b o e))).trans (hc i hi).2⟩⟩
theorem infoZ_parts : ∃ i, Tryd.prog.info? 22 = some i ∧ i.zero = some (.slice none 0 0) ∧ i.size = 1 ∧ i.bytes = 24 := by
  have infoI : (Tryd.prog.info? 22).map (fun i => (i.zero, i.size, i.bytes)) = some (some (.slice none 0 0), 1, 24) := by kernel_rfl
  obtain ⟨i, h, e⟩ := Option.map_eq_some_iff.1 infoI
  injection e with e1 e2
  injection e2 with e2 e3
  exact ⟨i, h, e1, e2, e3⟩
/-- A row of the call's own of rows of numbers. -/
def OwnRI (w : World) (base : Nat) (v : Value) (ls : List (List Int)) : Prop :=
  ∃ vs : List Value, w.ownsRow base 22 1 v ls.length vs ∧ ∀ (i : Nat) (h : i < ls.length), ∃ A c, vs[i]? = some (.slice A ls[i].length c) ∧ Ins w w.heap.size A ls[i] ∧ ∀ b o, A = some ⟨b, o, none⟩ → b < w.heap.size ∧ some b ≠ v.ownBlock
theorem OwnRI.nil (w : World) (base : Nat) : OwnRI w base (.slice none 0 0) [] := ⟨[], World.ownsRow_nil _ _ _ _, fun i h => by simp at h⟩
theorem OwnRI.below {w w' : World} {base : Nat} {v : Value} {ls : List (List Int)} (h : OwnRI w base v ls) (k : Below w.heap.size w w') : OwnRI w' base v ls := by
  obtain ⟨vs, h1, h2⟩ := h
  have hg : w.grownBy w' none := ⟨k.os, k.tape, k.output, k.size, fun i hi _ => k.block i hi⟩
  refine ⟨vs, h1.kept hg (by cases h : v.ownBlock with | none => exact .inl rfl | some k => exact .inr (by simp)), fun i hi => ?_⟩
  obtain ⟨A, c, e, hr, hb⟩ := h2 i hi
  exact ⟨A, c, e, (hr.kept (Nat.le_refl _) hg (fun _ _ _ e => by cases e)).more k.size, fun b o e => ⟨Nat.lt_of_lt_of_le (hb b o e).1 k.size, (hb b o e).2⟩⟩
theorem OwnRI.read {w : World} {base : Nat} {v : Value} {ls : List (List Int)} (h : OwnRI w base v ls) : ∃ A c, v = .slice A ls.length c ∧ RwI w w.heap.size A ls := by
  obtain ⟨vs, h1, h2⟩ := h
  rcases h1.2 with ⟨rfl, h0⟩ | ⟨g, cap, cur, rfl, hb, hg, hnc, hcm, hcs, htake⟩
  · have : ls = [] := List.eq_nil_of_length_eq_zero h0
    subst this
    exact ⟨none, 0, rfl, fun hn => absurd rfl hn⟩
  · refine ⟨_, cap, rfl, fun _ => ⟨g, 0, rfl, Has.lt hg, fun i hi => ?_⟩⟩
    obtain ⟨A, c, e, hr, _⟩ := h2 i hi
    exact ⟨A, c, by rw [Nat.zero_add, h1.cellAt i (by omega), e], hr⟩
/-- append of a row of numbers to it. -/
theorem wpList_pushI {P : Program} {ops : Array Oper} {rest : List Oper} {o : Oper} {a : Act} {Q : Exit → Act → World → Prop} (hgd : o.guard = none) (s x : Operand) (t : TypeId)
    (ho : o.op = .call { callee := .builtin .append, args := #[s, x], argTypes := #[t, t] })
    (base : Nat) (i : TypeInfo) (ht : P.underlying t = some (.slice 22)) (hi : P.info? 22 = some i) (hz : i.zero = some (.slice none 0 0)) (hsize : i.size = 1) (hby : i.bytes = 24)
    (v : Value) (ls : List (List Int)) (w0 : World) (A : Option Addr) (c : Nat) (l : List Int) (hr : Ins w0 w0.heap.size A l) (hA : ∀ b o, A = some ⟨b, o, none⟩ → b < w0.heap.size ∧ some b ≠ v.ownBlock) (hs : a.eval s = v) (hown : OwnRI w0 base v ls) (hx : a.eval x = .slice (some ⟨w0.heap.size, 0, none⟩) 1 1) (hlen : ls.length < 1000000) (hbase : base ≤ w0.heap.size)
    (h : ∀ v' w', OwnRI w' base v' (ls ++ [l]) → Below base w0 w' → wpList P ops Q rest (a.put o.dst v') w') : wpList P ops Q (o :: rest) a (w0.alloc (.cells #[.slice A l.length c] 22)) := by
  have hbl := (Below.refl w0.heap.size w0).alloc (Nat.le_refl _) (.cells #[.slice A l.length c] 22)
  obtain ⟨vs, h1, h2⟩ := hown.below hbl
  have hlen1 : vs.length = ls.length := by have := h1.1; omega
  have hob : ∀ k, v.ownBlock = some k → base ≤ k ∧ k < w0.heap.size := by
    obtain ⟨vs', h1', _⟩ := hown
    exact h1'.lt
  refine wpList_append_own_at _ hgd s x t ho base 22 i (.slice none 0 0) 1 24 ht hi hz hsize hby rfl (by decide) v ls.length vs hs h1 ⟨w0.heap.size, 0, none⟩ 1 1 [.slice A l.length c] hx rfl (cell_one_new _ _ _) (by intro u hu; simp at hu; subst hu; rfl) (by unfold maxLen; omega) (by omega) (by simp; omega) ?_
  intro v' w' ho' hg _ hat
  have hs' := hg.size
  rw [World.size_alloc] at hs'
  have hne : ∀ b, b < w0.heap.size → some b ≠ v.ownBlock → some b ≠ v'.ownBlock := fun b h1 h2 => by
    rcases hat with e | e
    · rw [e]; exact h2
    · rw [e, World.size_alloc]; intro e2; have := Option.some.inj e2; omega
  refine h v' w' ⟨vs ++ [.slice A l.length c], by rw [List.length_append]; exact ho', fun j hj => ?_⟩ ?_
  · rcases Nat.lt_or_ge j ls.length with hj2 | hj2
    · obtain ⟨vs0, k1, k2⟩ := hown
      have hvs : vs0 = vs := by
        have l0 : vs0.length = ls.length := by have := k1.1; omega
        refine List.ext_getElem? fun m => ?_
        rcases Nat.lt_or_ge m ls.length with hm | hm
        · obtain ⟨A5, c5, e5, _, _⟩ := h2 m hm
          rcases k1.2 with ⟨_, h0⟩ | ⟨g, cap, cur, e, _⟩
          · omega
          · subst e
            have z1 := k1.cellAt m (by omega)
            have z2 := h1.cellAt m (by omega)
            rw [← z1, ← z2]
            exact (hbl.cell (p := ⟨g, m, none⟩) (hob g rfl).2).symm
        · rw [List.getElem?_eq_none (by omega), List.getElem?_eq_none (by omega)]
      subst hvs
      obtain ⟨A5, c5, e5, r5, b5⟩ := k2 j hj2
      rw [List.getElem_append_left hj2]
      refine ⟨A5, c5, by rw [List.getElem?_append_left (by omega)]; exact e5, ?_, fun b o e => ⟨by have := (b5 b o e).1; omega, hne b (b5 b o e).1 (b5 b o e).2⟩⟩
      exact ((r5.kept (Nat.le_refl _) ((World.grownBy_alloc w0 _ _).trans hg) (fun b o e => (b5 b o e).2)).more (by omega))
    · have hj3 : j = ls.length := by simp at hj; omega
      subst hj3
      rw [List.getElem_append_right (Nat.le_refl _)]
      simp only [Nat.sub_self, List.getElem_cons_zero]
      refine ⟨A, c, by rw [List.getElem?_append_right (by omega), hlen1, Nat.sub_self]; rfl, ?_, fun b o e => ⟨by have := (hA b o e).1; omega, hne b (hA b o e).1 (hA b o e).2⟩⟩
      exact ((hr.kept (Nat.le_refl _) ((World.grownBy_alloc w0 _ _).trans hg) (fun b o e => (hA b o e).2)).more (by omega))
  · refine ((Below.refl _ _).alloc hbase _).trans ⟨hg.os, hg.tape, hg.output, hg.size, fun j hj => hg.block j (by rw [World.size_alloc]; omega) ?_⟩
    intro e
    have := (hob j e.symm).1
    omega
end
section
open Go.RowKit

theorem wide_of {l : List Nd} (hc : chkV l = 0) : ∀ x ∈ l, x.wide := fun x hx => by
  have := ros_ok hc hx
  exact ⟨⟨by omega, by omega⟩, by omega⟩
theorem wide_srt {l : List Nd} (hc : chkV l = 0) : ∀ x ∈ srt l, x.wide := fun x hx => wide_of hc x (srt_mem.1 hx)
theorem srt_le {l : List Nd} (hc : chkV l = 0) : (srt l).length ≤ 64 := by rw [(srt_srt l).1.length_eq]; exact (chkV_zero.1 hc).1
/-- Sort of a roster. -/
theorem sortR_any (A : Option Addr) (l : List Nd) (c : Nat) (w : World) (hl : Nds w w.heap.size A l) (hc : chkV l = 0) :
    Calls Tryd.prog 11 #[.slice A l.length c] w (NdsP (srt l) w) :=
  (sort_big A l c w hl (by have := (chkV_zero.1 hc).1; omega)).mono fun _ _ ⟨s, hs, h⟩ => by
    rw [← srt_of hs.srt (chkV_zero.1 hc).2.2]
    exact h
theorem checkB_any (A : Option Addr) (l : List Nd) (c : Nat) (w : World) (hl : Nds w w.heap.size A l) (hwd : ∀ x ∈ l, x.word < 4294967296) :
    Calls Tryd.prog 47 #[.slice A l.length c] w fun e w' => e = .returned (.int .i64 (chkV l)) ∧ Below w.heap.size w w' := check_any A l c w hl hwd

/-- What Neighbours answers. -/
def NbP (l : List Nd) (id h : Int) (w : World) (e : Ending) (w' : World) : Prop := e = .returned (.tuple #[(nbL l id h).val, .bool (nbB l id h)]) ∧ Below w.heap.size w w'
theorem nb_no {l : List Nd} {id h : Int} (hh : nbB l id h = false) : nbL l id h = ⟨0, 0⟩ := by unfold nbL; rw [if_neg (by simp [hh])]
/-- What the map of a level gives at a number. -/
theorem mp_nb {l : List Nd} (hc : chkV l = 0) {h : Int} (hh : lvB h = true) (id : Int) : (mpOf ((clsV (srt l) h).flatMap lks) id).getD ⟨0, 0⟩ = nbL l id h ∧ (mpOf ((clsV (srt l) h).flatMap lks) id).isSome = nbB l id h := by
  have h16 : 0 ≤ h ∧ h ≤ 16 := by simpa [lvB] using hh
  have hr := ros_of hc
  by_cases hp : plc l id < l.length
  · obtain ⟨x, hx, rfl⟩ := plc_found.1 hp
    obtain ⟨e1, e2⟩ := nb_in hc h16.1 h16.2 hx
    rw [mp_lnk hr.apart (srt_wd hc) h16.2 (srt_mem.2 hx), e1, e2]
    exact ⟨rfl, rfl⟩
  · have e1 : nbB l id h = false := by unfold nbB; simp [hp]
    rw [mp_none (srt_wd hc) h16.2 (fun x hx e => hp (plc_found.2 ⟨x, srt_mem.1 hx, e⟩)), nb_no e1, e1]
    exact ⟨rfl, rfl⟩

/-- What Lists answers. -/
def LstP (ls : List (List Int)) (w : World) (e : Ending) (w' : World) : Prop := ∃ A c, e = .returned (.slice A ls.length c) ∧ RwI w' w'.heap.size A ls ∧ Below w.heap.size w w'
theorem lst_no {l : List Nd} {h : Int} (k : ¬ (chkV l = 0 ∧ lvB h = true)) : lstV l h = [] := if_neg k
set_option maxRecDepth 100000 in
set_option maxHeartbeats 1600000 in
theorem lists_any6 (A : Option Addr) (l : List Nd) (c : Nat) (h : Int) (w : World) (hl : Nds w w.heap.size A l) (hwd : ∀ x ∈ l, x.word < 4294967296) :
    Calls Tryd.prog 30 #[.slice A l.length c, .int .i64 h] w (LstP (lstV l h) w) := by
  have HC := Lib.hid (check_any A l c w hl hwd)
  have HI := Lib.hid (fun (W : World) => isLevel_any h W)
  by_cases hchk : chkV l = 0
  · rw [hchk] at HC
    by_cases hlv : lvB h = true
    · rw [hlv] at HI
      have hV : lstV l h = (clsV (srt l) h).map (fun c => c.map Nd.id) := if_pos ⟨hchk, hlv⟩
      rw [hV]
      have HS := Lib.hid (fun (W : World) (k : Below w.heap.size w W) => sortR_any A l c W ((hl.below k).more k.size) hchk)
      have HLK := Lib.hid (fun (W : World) (A2 : Option Addr) (c2 : Nat) (hr : Nds W W.heap.size A2 (srt l)) => classes_any A2 (srt l) c2 h W hr (by have := srt_le hchk; omega) (srt_wd hchk))
      have HWD : Hid (∀ cc ∈ clsV (srt l) h, cc.length ≤ 1000 ∧ ∀ x ∈ cc, x.wide) := Lib.hid fun cc hcc => ⟨by
        have h1 := lks_flat_le (srt l) h (clsV (srt l) h).length
        rw [List.take_length, lks_flat_len] at h1
        have h2 : cc.length ≤ ((clsV (srt l) h).map List.length).sum := by
          obtain ⟨s, t, e⟩ := List.append_of_mem hcc
          rw [e]
          simp
          omega
        have := srt_le hchk
        omega, fun x hx => wide_srt hchk x (cls_in hcc hx)⟩
      have hsl := srt_le hchk
      have hcl := clsV_len_le (srt l) h
      have HN := Lib.hid (fun (A2 : Option Addr) (cc : List Nd) (c2 : Nat) (W : World) (hr : Nds W W.heap.size A2 cc) (k1 : cc.length ≤ 1000) (k2 : ∀ x ∈ cc, x.wide) => numbers_any A2 cc c2 W hr k1 k2)
      obtain ⟨inf, hif, hif1, hif2, hif3⟩ := infoZ_parts
      generalize clsV (srt l) h = cs at *
      generalize srt l = S at *
      clear hl hwd hchk hlv hV
      go_enter Tryd.func30, Tryd.ntmps30
      go_wp2_with fail
      refine (HC.out).mono ?_
      rintro e w1 ⟨rfl, hb1⟩
      have HB1 := Lib.hid hb1
      clear hb1 HC
      go_wp2_with fail
      refine (HI.out _).mono ?_
      rintro e w2 ⟨rfl, rfl⟩
      go_wp2_with fail
      refine (HS.out _ HB1.out).mono ?_
      rintro e w2 ⟨A2, c2, rfl, ho2, hb2⟩
      obtain ⟨_, _, er, hr2⟩ := ho2.read
      injection er with e1 _ e2
      subst e1 e2
      have HB2 := Lib.hid (HB1.out.trans (hb2.mono HB1.out.size))
      have HL2 := Lib.hid (HLK.out w2 A2 c2 hr2)
      clear hb2 HS HB1 ho2 hr2 HLK
      go_wp2_with fail
      refine (HL2.out).mono ?_
      rintro e w3 ⟨A3, c3, rfl, hr3, hb3⟩
      have HB3 := Lib.hid (HB2.out.trans (hb3.mono HB2.out.size))
      clear hb3 HB2 HL2
      obtain ⟨N, hN⟩ : ∃ N, N = cs.length := ⟨_, rfl⟩
      have HNN := Lib.hid hN
      rw [← hN] at hcl ⊢
      clear hN
      go_wp2_with fail
      go_loopw [5, 21] (fun b i wr => ∃ (v1 : Value) (k : Nat) (l1 : List (List Int)), v1 = b ∧ k ≤ N ∧ i = .int .i64 (k : Int) ∧ OwnRI wr w3.heap.size v1 l1 ∧ Below w3.heap.size w3 wr ∧ Hid (l1 = (cs.take k).map (fun c => c.map Nd.id)) ∧ l1.length ≤ k) (fun _ i _ => N - (intOf i).toNat)
      case atStart => exact ⟨_, 0, [], rfl, by omega, rfl, OwnRI.nil _ _, Below.refl _ _, Lib.hid (by simp), by simp⟩
      case round =>
        obtain ⟨v1, k, l1, rfl, hk, rfl, ho1, hB, HL, hlen⟩ := hrel
        by_cases hlt : k < N
        · have k1 : k < cs.length := by rw [← HNN.out]; exact hlt
          obtain ⟨b, o, Ai, ci, hA2, hb, f1, hr⟩ := hr3.at_ k1
          subst hA2
          obtain ⟨hcl2, hw2⟩ := HWD.out _ (List.getElem_mem k1)
          have HT : Hid ((cs.take (k + 1)).map (fun c => c.map Nd.id) = (cs.take k).map (fun c => c.map Nd.id) ++ [cs[k].map Nd.id]) := Lib.hid (by rw [List.take_succ_eq_append_getElem k1, List.map_append]; rfl)
          replace f1 := (hB.cell (p := ⟨b, o + k, none⟩) hb).trans f1
          have HNB := Lib.hid (HN.out Ai cs[k] ci wr ((hr.below hB).more hB.size) hcl2 hw2)
          generalize cs[k] = cc at *
          unfold IdsP at HNB
          obtain ⟨m, hm⟩ : ∃ m, m = cc.map Nd.id := ⟨_, rfl⟩
          obtain ⟨n2, hn2⟩ : ∃ n2, n2 = cc.length := ⟨_, rfl⟩
          have hml : m.length = n2 := by rw [hm, hn2]; simp
          have HMM := Lib.hid hm
          rw [← hm, hml] at HNB
          rw [← hn2] at f1 HNB
          have HML := Lib.hid hml
          have i0 : (0 : Int) ≤ (k : Int) := by omega
          have i1 : (k : Int) < (N : Int) := by omega
          obtain ⟨A5, c5, hv5, hnd⟩ := ho1.read
          clear hnd hr hw2 k1 hm hn2 hml
          have HO1 := Lib.hid ho1
          have HB := Lib.hid hB
          subst hv5
          clear ho1 hB
          go_wp2_with fail
          refine (HNB.out).mono ?_
          rintro e w4 ⟨A4, c4, rfl, ho4, hb4⟩
          have ho4' := HO1.out.below hb4
          have hB4 := HB.out.trans (hb4.mono HB.out.size)
          obtain ⟨_, _, er, hr4, hbs4⟩ := ho4.read
          injection er with e1 _ e2
          subst e1 e2
          have hsep : ∀ b o, A4 = some ⟨b, o, none⟩ → b < w4.heap.size ∧ some b ≠ (Value.slice A5 l1.length c5).ownBlock := fun b o e => by
            have h1 := hbs4 b o e
            have h2 := ho4.1.lt b (by rw [e]; rfl)
            refine ⟨h2.2, fun e2 => ?_⟩
            obtain ⟨vs, h3, _⟩ := HO1.out
            have := (h3.lt b e2.symm).2
            omega
          clear HNB HO1 ho4 hb4 hbs4
          rw [← HML.out]
          go_wp2_with (at_builtin; refine wpList_pushI rfl _ _ 57 rfl w3.heap.size inf Tryd.underlying57 hif hif1 hif2 hif3 (.slice A5 l1.length c5) l1 w4 A4 c4 m hr4 hsep rfl ho4' rfl (by omega) hB4.size ?_; intro v2 w6 ho6 hb6; obtain ⟨l2, hl2⟩ : ∃ l2, l2 = l1 ++ [m] := ⟨_, rfl⟩; rw [← hl2] at ho6; have hln2 : l2.length = l1.length + 1 := (by rw [hl2]; simp); have HL2 := Lib.hid hl2; have HLN := Lib.hid hln2; clear hl2 hln2; obtain ⟨A6, c6, rfl, -⟩ := ho6.read)
          exact ⟨⟨_, k + 1, l2, rfl, hlt, by go_num, ho6, hB4.trans hb6, Lib.hid (by rw [HL2.out, HL.out, HT.out, HMM.out]), by rw [HLN.out]; omega⟩, by simp [intOf]; omega⟩
        · have hL2 : l1 = cs.map (fun c => c.map Nd.id) := by rw [HL.out, List.take_of_length_le (by rw [← HNN.out]; omega)]
          obtain ⟨A5, c5, rfl, hr5⟩ := ho1.read
          have HL2 := Lib.hid hL2
          clear hL2 HL ho1
          go_wp2_with fail
          go_ret
          rw [← HL2.out]
          exact ⟨A5, c5, rfl, hr5, HB3.out.trans (hB.mono HB3.out.size)⟩
    · have hlz : lvB h = false := by simpa using hlv
      rw [lst_no (fun k => hlv k.2)]
      rw [hlz] at HI
      clear hl hwd hchk hlv hlz
      go_enter Tryd.func30, Tryd.ntmps30
      go_wp2_with fail
      refine (HC.out).mono ?_
      rintro e w1 ⟨rfl, hb1⟩
      go_wp2_with fail
      refine (HI.out _).mono ?_
      rintro e w2 ⟨rfl, rfl⟩
      go_wp2_with fail
      go_ret
      exact ⟨none, 0, rfl, fun hn => absurd rfl hn, hb1⟩
  · have hz : (chkV l != 0) = true := by simpa using hchk
    rw [lst_no (fun k => hchk k.1)]
    generalize chkV l = Zc at *
    clear hl hwd hchk
    go_enter Tryd.func30, Tryd.ntmps30
    go_wp2_with fail
    refine (HC.out).mono ?_
    rintro e w1 ⟨rfl, hb1⟩
    go_wp2_with fail
    go_ret
    exact ⟨none, 0, rfl, fun hn => absurd rfl hn, hb1⟩
end
end Go.Proofs.YtddcfiiahahkbaaDoor
