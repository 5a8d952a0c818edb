/-
  isLevel and numbers of package ideal; rows of rows of numbers: as they are read, and the call's own. Conditions: what is read can be read.
  Height, Neighbours and Lists of package ideal. Condition: the nodes can be read.
-/
import Derived.Test.YtjokbdhineilcaaGreatDoorLmA
import Derived.Test.YtjokbdhineilcaaGreatDoorKhU
import Derived.Test.YtjokbdhineilcaaGreatDoorLhE
namespace Go.Proofs.YtjokbdhineilcaaGreatDoor
section
open Go.RowKit

theorem isLevel_any (h : Int) (w : World) : Calls Tryz.prog 69 #[.int .i64 h] w fun e w' => e = .returned (.bool (lvB h)) ∧ w = w' := by
  have HL : Hid (lvB h = (decide (0 ≤ h) && decide (h ≤ 16))) := Lib.hid rfl
  generalize lvB h = Z at *
  by_cases h1 : 0 ≤ h
  · by_cases h2 : h ≤ 16
    · have HZ : Hid (Z = true) := Lib.hid (by rw [HL.out]; simp [h1, h2])
      go_enter Tryz.func69, Tryz.ntmps69
      go_wp2_with fail
      go_ret
      exact ⟨ret_bool HZ.out.symm, rfl⟩
    · have HZ : Hid (Z = false) := Lib.hid (by rw [HL.out]; simp [h2])
      go_enter Tryz.func69, Tryz.ntmps69
      go_wp2_with fail
      go_ret
      exact ⟨ret_bool HZ.out.symm, rfl⟩
  · have HZ : Hid (Z = false) := Lib.hid (by rw [HL.out]; simp [h1])
    go_enter Tryz.func69, Tryz.ntmps69
    go_wp2_with fail
    go_ret
    exact ⟨ret_bool HZ.out.symm, rfl⟩

/-- A row of numbers in new memory. -/
def IdsP (l : List Int) (w : World) (e : Ending) (w' : World) : Prop := ∃ A c, e = .returned (.slice A l.length c) ∧ OwnZ w' w.heap.size (.slice A l.length c) l ∧ Below w.heap.size w w'
/-- Rows of rows of numbers below block B, as they are read. -/
def RwI (w : World) (B : Nat) (A : Option Addr) (ls : List (List Int)) : Prop :=
  ls ≠ [] → ∃ b o, A = some ⟨b, o, none⟩ ∧ b < B ∧ ∀ i (h : i < ls.length), ∃ Ai ci, w.cell? ⟨b, o + i, none⟩ = some (.slice Ai ls[i].length ci) ∧ Ins w B Ai ls[i]
theorem RwI.keep {w w' : World} {B : Nat} {A : Option Addr} {ls : List (List Int)} (h : RwI w B A ls) (k : ∀ i, i < B → w'.heap[i]? = w.heap[i]?) : RwI w' B A ls := fun hn => by
  obtain ⟨b, o, e, hb, hc⟩ := h hn
  refine ⟨b, o, e, hb, fun i hi => ?_⟩
  obtain ⟨Ai, ci, h1, h2⟩ := hc i hi
  exact ⟨Ai, ci, (World.cell?_of_block (k b hb)).trans h1, h2.keep k⟩
theorem RwI.more {w : World} {B B' : Nat} {A : Option Addr} {ls : List (List Int)} (h : RwI w B A ls) (hB : B ≤ B') : RwI w B' A ls := fun hn => by
  obtain ⟨b, o, e, hb, hc⟩ := h hn
  refine ⟨b, o, e, by omega, fun i hi => ?_⟩
  obtain ⟨Ai, ci, h1, h2⟩ := hc i hi
  exact ⟨Ai, ci, h1, h2.more hB⟩
theorem RwI.below {w w' : World} {B : Nat} {A : Option Addr} {ls : List (List Int)} (h : RwI w B A ls) (k : Below B w w') : RwI w' B A ls := h.keep k.block
theorem RwI.at_ {w : World} {B : Nat} {A : Option Addr} {ls : List (List Int)} (h : RwI w B A ls) {i : Nat} (hi : i < ls.length) : ∃ b o Ai ci, A = some ⟨b, o, none⟩ ∧ b < B ∧ w.cell? ⟨b, o + i, none⟩ = some (.slice Ai ls[i].length ci) ∧ Ins w B Ai ls[i] := by
  obtain ⟨b, o, e, hb, hc⟩ := h (by intro e; rw [e] at hi; simp at hi)
  obtain ⟨Ai, ci, h1, h2⟩ := hc i hi
  exact ⟨b, o, Ai, ci, e, hb, h1, h2⟩
theorem Ins.kept {w w' : World} {B : Nat} {A : Option Addr} {l : List Int} {row : Option Nat} (h : Ins w B A l) (hB : B ≤ w.heap.size) (hg : w.grownBy w' row) (hne : ∀ b o, A = some ⟨b, o, none⟩ → some b ≠ row) : Ins w' B A l := fun hn => by
  obtain ⟨b, o, e, hb, hc⟩ := h hn
  exact ⟨b, o, e, hb, fun i hi => ⟨(hc i hi).1, (World.cell?_of_block (hg.block b (by omega) (hne b o e))).trans (hc i hi).2⟩⟩
theorem infoZ_parts : ∃ i, Tryz.prog.info? 22 = some i ∧ i.zero = some (.slice none 0 0) ∧ i.size = 1 ∧ i.bytes = 24 := by
  have infoI : (Tryz.prog.info? 22).map (fun i => (i.zero, i.size, i.bytes)) = some (some (.slice none 0 0), 1, 24) := by kernel_rfl
  obtain ⟨i, h, e⟩ := Option.map_eq_some_iff.1 infoI
  injection e with e1 e2
  injection e2 with e2 e3
  exact ⟨i, h, e1, e2, e3⟩
/-- A row of the call's own of rows of numbers. -/
def OwnRI (w : World) (base : Nat) (v : Value) (ls : List (List Int)) : Prop :=
  ∃ vs : List Value, w.ownsRow base 22 1 v ls.length vs ∧ ∀ (i : Nat) (h : i < ls.length), ∃ A c, vs[i]? = some (.slice A ls[i].length c) ∧ Ins w w.heap.size A ls[i] ∧ ∀ b o, A = some ⟨b, o, none⟩ → b < w.heap.size ∧ some b ≠ v.ownBlock
theorem OwnRI.nil (w : World) (base : Nat) : OwnRI w base (.slice none 0 0) [] := ⟨[], World.ownsRow_nil _ _ _ _, fun i h => by simp at h⟩
theorem OwnRI.below {w w' : World} {base : Nat} {v : Value} {ls : List (List Int)} (h : OwnRI w base v ls) (k : Below w.heap.size w w') : OwnRI w' base v ls := by
  obtain ⟨vs, h1, h2⟩ := h
  have hg : w.grownBy w' none := ⟨k.os, k.tape, k.output, k.size, fun i hi _ => k.block i hi⟩
  refine ⟨vs, h1.kept hg (by cases h : v.ownBlock with | none => exact .inl rfl | some k => exact .inr (by simp)), fun i hi => ?_⟩
  obtain ⟨A, c, e, hr, hb⟩ := h2 i hi
  exact ⟨A, c, e, (hr.kept (Nat.le_refl _) hg (fun _ _ _ e => by cases e)).more k.size, fun b o e => ⟨Nat.lt_of_lt_of_le (hb b o e).1 k.size, (hb b o e).2⟩⟩
theorem OwnRI.read {w : World} {base : Nat} {v : Value} {ls : List (List Int)} (h : OwnRI w base v ls) : ∃ A c, v = .slice A ls.length c ∧ RwI w w.heap.size A ls := by
  obtain ⟨vs, h1, h2⟩ := h
  rcases h1.2 with ⟨rfl, h0⟩ | ⟨g, cap, cur, rfl, hb, hg, hnc, hcm, hcs, htake⟩
  · have : ls = [] := List.eq_nil_of_length_eq_zero h0
    subst this
    exact ⟨none, 0, rfl, fun hn => absurd rfl hn⟩
  · refine ⟨_, cap, rfl, fun _ => ⟨g, 0, rfl, Has.lt hg, fun i hi => ?_⟩⟩
    obtain ⟨A, c, e, hr, _⟩ := h2 i hi
    exact ⟨A, c, by rw [Nat.zero_add, h1.cellAt i (by omega), e], hr⟩
/-- append of a row of numbers to it. -/
theorem wpList_pushI {P : Program} {ops : Array Oper} {rest : List Oper} {o : Oper} {a : Act} {Q : Exit → Act → World → Prop} (hgd : o.guard = none) (s x : Operand) (t : TypeId)
    (ho : o.op = .call { callee := .builtin .append, args := #[s, x], argTypes := #[t, t] })
    (base : Nat) (i : TypeInfo) (ht : P.underlying t = some (.slice 22)) (hi : P.info? 22 = some i) (hz : i.zero = some (.slice none 0 0)) (hsize : i.size = 1) (hby : i.bytes = 24)
    (v : Value) (ls : List (List Int)) (w0 : World) (A : Option Addr) (c : Nat) (l : List Int) (hr : Ins w0 w0.heap.size A l) (hA : ∀ b o, A = some ⟨b, o, none⟩ → b < w0.heap.size ∧ some b ≠ v.ownBlock) (hs : a.eval s = v) (hown : OwnRI w0 base v ls) (hx : a.eval x = .slice (some ⟨w0.heap.size, 0, none⟩) 1 1) (hlen : ls.length < 1000000) (hbase : base ≤ w0.heap.size)
    (h : ∀ v' w', OwnRI w' base v' (ls ++ [l]) → Below base w0 w' → wpList P ops Q rest (a.put o.dst v') w') : wpList P ops Q (o :: rest) a (w0.alloc (.cells #[.slice A l.length c] 22)) := by
  have hbl := (Below.refl w0.heap.size w0).alloc (Nat.le_refl _) (.cells #[.slice A l.length c] 22)
  obtain ⟨vs, h1, h2⟩ := hown.below hbl
  have hlen1 : vs.length = ls.length := by have := h1.1; omega
  have hob : ∀ k, v.ownBlock = some k → base ≤ k ∧ k < w0.heap.size := by
    obtain ⟨vs', h1', _⟩ := hown
    exact h1'.lt
  refine wpList_append_own_at _ hgd s x t ho base 22 i (.slice none 0 0) 1 24 ht hi hz hsize hby rfl (by decide) v ls.length vs hs h1 ⟨w0.heap.size, 0, none⟩ 1 1 [.slice A l.length c] hx rfl (cell_one_new _ _ _) (by intro u hu; simp at hu; subst hu; rfl) (by unfold maxLen; omega) (by omega) (by simp; omega) ?_
  intro v' w' ho' hg _ hat
  have hs' := hg.size
  rw [World.size_alloc] at hs'
  have hne : ∀ b, b < w0.heap.size → some b ≠ v.ownBlock → some b ≠ v'.ownBlock := fun b h1 h2 => by
    rcases hat with e | e
    · rw [e]; exact h2
    · rw [e, World.size_alloc]; intro e2; have := Option.some.inj e2; omega
  refine h v' w' ⟨vs ++ [.slice A l.length c], by rw [List.length_append]; exact ho', fun j hj => ?_⟩ ?_
  · rcases Nat.lt_or_ge j ls.length with hj2 | hj2
    · obtain ⟨vs0, k1, k2⟩ := hown
      have hvs : vs0 = vs := by
        have l0 : vs0.length = ls.length := by have := k1.1; omega
        refine List.ext_getElem? fun m => ?_
        rcases Nat.lt_or_ge m ls.length with hm | hm
        · obtain ⟨A5, c5, e5, _, _⟩ := h2 m hm
          rcases k1.2 with ⟨_, h0⟩ | ⟨g, cap, cur, e, _⟩
          · omega
          · subst e
            have z1 := k1.cellAt m (by omega)
            have z2 := h1.cellAt m (by omega)
            rw [← z1, ← z2]
            exact (hbl.cell (p := ⟨g, m, none⟩) (hob g rfl).2).symm
        · rw [List.getElem?_eq_none (by omega), List.getElem?_eq_none (by omega)]
      subst hvs
      obtain ⟨A5, c5, e5, r5, b5⟩ := k2 j hj2
      rw [List.getElem_append_left hj2]
      refine ⟨A5, c5, by rw [List.getElem?_append_left (by omega)]; exact e5, ?_, fun b o e => ⟨by have := (b5 b o e).1; omega, hne b (b5 b o e).1 (b5 b o e).2⟩⟩
      exact ((r5.kept (Nat.le_refl _) ((World.grownBy_alloc w0 _ _).trans hg) (fun b o e => (b5 b o e).2)).more (by omega))
    · have hj3 : j = ls.length := by simp at hj; omega
      subst hj3
      rw [List.getElem_append_right (Nat.le_refl _)]
      simp only [Nat.sub_self, List.getElem_cons_zero]
      refine ⟨A, c, by rw [List.getElem?_append_right (by omega), hlen1, Nat.sub_self]; rfl, ?_, fun b o e => ⟨by have := (hA b o e).1; omega, hne b (hA b o e).1 (hA b o e).2⟩⟩
      exact ((hr.kept (Nat.le_refl _) ((World.grownBy_alloc w0 _ _).trans hg) (fun b o e => (hA b o e).2)).more (by omega))
  · refine ((Below.refl _ _).alloc hbase _).trans ⟨hg.os, hg.tape, hg.output, hg.size, fun j hj => hg.block j (by rw [World.size_alloc]; omega) ?_⟩
    intro e
    have := (hob j e.symm).1
    omega
end
section
open Go.RowKit

theorem wide_of {l : List Nd} (hc : chkV l = 0) : ∀ x ∈ l, x.wide := fun x hx => by
  have := ros_ok hc hx
  exact ⟨⟨by omega, by omega⟩, by omega⟩
theorem wide_srt {l : List Nd} (hc : chkV l = 0) : ∀ x ∈ srt l, x.wide := fun x hx => wide_of hc x (srt_mem.1 hx)
theorem srt_le {l : List Nd} (hc : chkV l = 0) : (srt l).length ≤ 64 := by rw [(srt_srt l).1.length_eq]; exact (chkV_zero.1 hc).1
/-- Sort of a roster. -/
theorem sortR_any (A : Option Addr) (l : List Nd) (c : Nat) (w : World) (hl : Nds w w.heap.size A l) (hc : chkV l = 0) :
    Calls Tryz.prog 60 #[.slice A l.length c] w (NdsP (srt l) w) :=
  (sort_big A l c w hl (by have := (chkV_zero.1 hc).1; omega)).mono fun _ _ ⟨s, hs, h⟩ => by
    rw [← srt_of hs.srt (chkV_zero.1 hc).2.2]
    exact h
theorem checkB_any (A : Option Addr) (l : List Nd) (c : Nat) (w : World) (hl : Nds w w.heap.size A l) (hwd : ∀ x ∈ l, x.word < 4294967296) :
    Calls Tryz.prog 29 #[.slice A l.length c] w fun e w' => e = .returned (.int .i64 (chkV l)) ∧ Below w.heap.size w w' := check_any A l c w hl hwd

/-- What Neighbours answers. -/
def NbP (l : List Nd) (id h : Int) (w : World) (e : Ending) (w' : World) : Prop := e = .returned (.tuple #[(nbL l id h).val, .bool (nbB l id h)]) ∧ Below w.heap.size w w'
theorem nb_no {l : List Nd} {id h : Int} (hh : nbB l id h = false) : nbL l id h = ⟨0, 0⟩ := by unfold nbL; rw [if_neg (by simp [hh])]
/-- What the map of a level gives at a number. -/
theorem mp_nb {l : List Nd} (hc : chkV l = 0) {h : Int} (hh : lvB h = true) (id : Int) : (mpOf ((clsV (srt l) h).flatMap lks) id).getD ⟨0, 0⟩ = nbL l id h ∧ (mpOf ((clsV (srt l) h).flatMap lks) id).isSome = nbB l id h := by
  have h16 : 0 ≤ h ∧ h ≤ 16 := by simpa [lvB] using hh
  have hr := ros_of hc
  by_cases hp : plc l id < l.length
  · obtain ⟨x, hx, rfl⟩ := plc_found.1 hp
    obtain ⟨e1, e2⟩ := nb_in hc h16.1 h16.2 hx
    rw [mp_lnk hr.apart (srt_wd hc) h16.2 (srt_mem.2 hx), e1, e2]
    exact ⟨rfl, rfl⟩
  · have e1 : nbB l id h = false := by unfold nbB; simp [hp]
    rw [mp_none (srt_wd hc) h16.2 (fun x hx e => hp (plc_found.2 ⟨x, srt_mem.1 hx, e⟩)), nb_no e1, e1]
    exact ⟨rfl, rfl⟩

/-- What Lists answers. -/
def LstP (ls : List (List Int)) (w : World) (e : Ending) (w' : World) : Prop := ∃ A c, e = .returned (.slice A ls.length c) ∧ RwI w' w'.heap.size A ls ∧ Below w.heap.size w w'
theorem lst_no {l : List Nd} {h : Int} (k : ¬ (chkV l = 0 ∧ lvB h = true)) : lstV l h = [] := if_neg k
end
end Go.Proofs.YtjokbdhineilcaaGreatDoor
