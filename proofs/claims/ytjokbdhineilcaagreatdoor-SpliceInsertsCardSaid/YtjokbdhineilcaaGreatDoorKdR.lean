/-
  Roster of the tape: what it gives. Conditions: the tape; 'letters' is as the program's text lays it.
-/
import Derived.Test.YtjokbdhineilcaaGreatDoorLdX
import Derived.Test.YtjokbdhineilcaaGreatDoorKdK
import Derived.Test.YtjokbdhineilcaaGreatDoorLwQ
import Derived.Test.YtjokbdhineilcaaGreatDoorLwG
import Derived.Test.YtjokbdhineilcaaGreatDoorKwU
namespace Go.Proofs.YtjokbdhineilcaaGreatDoor
open Go.RowKit

/-- What Roster gives: at most n nodes, a roster. -/
def RosP (n g : Nat) (w : World) (e : Ending) (w' : World) : Prop := ∃ A c l, e = .returned (.slice A (l : List Nd).length c) ∧ OwnN w' w.heap.size (.slice A l.length c) l ∧ l.length ≤ n ∧ (∀ x ∈ l, x.word < 65536) ∧ chkV l = 0 ∧ TStep w g w'

theorem one_node (w : World) (a : Nd) : Nds (w.alloc (.cells #[.int .i64 a.id, .string a.key, .int .u32 (a.word : Int)] 25)) (w.heap.size + 1) (some ⟨w.heap.size, 0, none⟩) [a] := fun _ => by
  have hN := Has.new w 25 #[.int .i64 a.id, .string a.key, .int .u32 (a.word : Int)]
  refine ⟨_, 0, rfl, by omega, fun i hi => ?_⟩
  have h2 : i = 0 := by simp at hi; omega
  subst h2
  exact ⟨hN.cell 0, hN.cell 1, hN.cell 2⟩

theorem TStep.below_base {a b c : World} {g : Nat} (h : TStep a g b) (hg : g < a.heap.size) (k : Below a.heap.size b c) : TStep a g c := by
  obtain ⟨A, n, d, q, h1, h2, hn, hb⟩ := h.1
  refine ⟨⟨A, n, d, q, h1, h2, hn.keep (fun i hi => k.block i (by omega)), (k.block g hg).trans hb⟩, ?_⟩
  exact ⟨k.os.trans h.2.os, k.tape.trans h.2.tape, k.output.trans h.2.output, Nat.le_trans h.2.size k.size, fun i hi hne => (k.block i hi).trans (h.2.block i hi hne)⟩

set_option maxRecDepth 100000 in
set_option maxHeartbeats 3200000 in
theorem roster_any (n : Nat) (g : Nat) (w : World) (hn1 : 1 ≤ n) (hn : n ≤ 60) (ht : Tape w g) (hl : Lets w) (hne : 0 ≠ g) :
    Calls Tryz.prog 6 #[.pointer (some ⟨g, 0, none⟩), .int .i64 (n : Int)] w (RosP n g w) := by
  have hg := ht.lt
  obtain ⟨inf, hif, hif1, hif2, hif3⟩ := infoN_parts
  have hst := TStep.refl ht
  have w1' : IntKind.i64.wrap ((n : Int) + 1) = (n : Int) + 1 := IntWalk.i64_in _ (by omega)
  have w2' : IntKind.i64.wrap (3 * (n : Int)) = 3 * (n : Int) := IntWalk.i64_in _ (by omega)
  go_enter Tryz.func6, Tryz.ntmps6
  go_wp2_with fail
  refine (next_any g _ _ ht (by omega)).mono ?_
  rintro e w1 ⟨r, r0, r1, rfl, hst1⟩
  obtain ⟨q0, rfl⟩ : ∃ q : Nat, r = (q : Int) := ⟨r.toNat, by omega⟩
  have hq0 : q0 ≤ n := by omega
  clear r1 ht
  go_wp2_with fail
  go_loopw [5, 6] (fun b i wr => ∃ (A : Option Addr) (c k : Nat) (l : List Nd), b = .slice A l.length c ∧ i = .int .i64 (k : Int) ∧ k ≤ n ∧ l.length + k ≤ n ∧ OwnN wr w.heap.size (.slice A l.length c) l ∧ Hid (∀ x ∈ l, x.word < 65536) ∧ Hid (chkV l = 0) ∧ TStep w g wr) (fun _ i _ => (intOf i).toNat)
  case atStart => exact ⟨none, 0, q0, [], rfl, rfl, hq0, by simpa using hq0, OwnN.nil _ _, Lib.hid (fun x h => by cases h), Lib.hid (by decide), hst1⟩
  case round =>
    clear hst1 hst
    obtain ⟨A, c, k, l, rfl, rfl, hk, hlk, ho, HW, HC, hst⟩ := hrel
    by_cases hk0 : k = 0
    · subst hk0
      go_wp2_with fail
      go_ret
      exact ⟨A, c, l, rfl, ho, by omega, HW.out, HC.out, hst⟩
    · have i0 : (0 : Int) < (k : Int) := by omega
      go_wp2_with fail
      refine (next_any g _ _ hst.1 (by omega)).mono ?_
      rintro e w2 ⟨p, p0, p1, rfl, hst2⟩
      have s2 := hst.trans hst2
      have o2 := ho.step hg hst2
      clear ho hst hst2
      have w3' : IntKind.i64.wrap (1 + p) = 1 + p := IntWalk.i64_in _ (by omega)
      go_wp2_with fail
      refine (key_any g _ s2.1 (hl.step hne s2) hne).mono ?_
      rintro e w3 ⟨key, hkey, rfl, hst3⟩
      have s3 := s2.trans hst3
      have o3 := o2.step hg hst3
      clear o2 s2 hst3
      go_wp2_with fail
      refine (word_any g _ s3.1).mono ?_
      rintro e w4 ⟨wd, hwd, rfl, hst4⟩
      have s4 := s3.trans hst4
      have o4 := o3.step hg hst4
      clear o3 s3 hst4
      go_wp2_with fail
      have hX := Has.new w4 25 #[.int .i64 (1 + p), .string key, .int .u32 (wd : Int)]
      have r0' := hX.cell 0
      have r1' := hX.cell 1
      have r2' := hX.cell 2
      have s5 := s4.alloc (.cells #[.int .i64 (1 + p), .string key, .int .u32 (wd : Int)] 25)
      have o5 := o4.below ((Below.refl _ _).alloc (Nat.le_refl _) (.cells #[.int .i64 (1 + p), .string key, .int .u32 (wd : Int)] 25))
      have hXlt : w4.heap.size < (w4.alloc (.cells #[.int .i64 (1 + p), .string key, .int .u32 (wd : Int)] 25)).heap.size := by rw [World.size_alloc]; omega
      clear o4 s4 hX
      generalize w4.alloc (.cells #[.int .i64 (1 + p), .string key, .int .u32 (wd : Int)] 25) = W0 at *
      generalize w4.heap.size = X at *
      obtain ⟨_, _, er, hnd⟩ := o5.read
      injection er with e1 _ e2
      subst e1 e2
      have hS0 : Below W0.heap.size W0 W0.drew := (Below.refl _ _).drew
      have hn0 : l.length ≤ 60 := by omega
      refine wp_region_held_drew (S := fun W => Below W0.heap.size W0 W) (by kernel_rfl) hS0 (fun _ => ?_)
      refine takeH (i := 0) (d := some 26) (v := ?_) rfl rfl (by kernel_rfl) (by kernel_rfl) (by kernel_rfl) (fun _ _ _ h => h) (Or.inl ⟨by rfl, ?_⟩) (by assumption) ?_
      rotate_left
      · intro W hSw
        go_simp; try with_reducible rfl
      try simp only [Act.put, List.setIfInBounds_toArray, List.set_cons_zero, List.set_cons_succ]
      refine takeH (i := 2) (d := some 28) (v := ?_) rfl rfl (by kernel_rfl) (by kernel_rfl) (by kernel_rfl) (fun _ _ _ h => h) (Or.inl ⟨by rfl, ?_⟩) (by assumption) ?_
      rotate_left
      · intro W hSw
        have q0 := (Below.cell hSw (p := ⟨X, 0, none⟩) hXlt).trans r0'
        have q1 := (Below.cell hSw (p := ⟨X, 1, none⟩) hXlt).trans r1'
        have q2 := (Below.cell hSw (p := ⟨X, 2, none⟩) hXlt).trans r2'
        go_simp
        try with_reducible rfl
      try simp only [Act.put, List.setIfInBounds_toArray, List.set_cons_zero, List.set_cons_succ]
      refine wpAnyH_ready (rs := [1, 3]) (by kernel_rfl) (by simp) ?_
      refine AllReadyH.cons rfl (fun K hK => ?_) (AllReadyH.cons rfl (fun K hK => ?_) AllReadyH.nil)
      · have nd1 : Nds W0.drew W0.heap.size A l := hnd.below hS0
        refine step_pushNs (w := W0.drew) (o := ⟨some 27, _, _, _, _, _⟩) rfl (.const (.slice none 0 0)) (.tmp 26) 28 (by rfl) W0.drew.heap.size inf Tryz.underlying28 hif hif1 hif2 hif3 (.slice none 0 0) [] (by simp [Act.eval]) (OwnN.nil _ _) W0.heap.size A l l.length c rfl (by simp [Act.eval]) nd1 (by simp; omega) (Nat.le_refl _) ?_
        intro v1 wa ho1 hba
        have hBa : Below W0.heap.size W0 wa := hS0.trans hba
        refine hK.out _ _ hBa (fun _ => ?_)
        clear hK K
        try simp only [Act.put, List.setIfInBounds_toArray, List.set_cons_zero, List.set_cons_succ]
        refine wpAnyH_ready (rs := [3]) (by kernel_rfl) (by simp) ?_
        refine AllReadyH.cons rfl (fun K hK => ?_) AllReadyH.nil
        go_simp
        have hBc : Below W0.heap.size W0 (wa.alloc (.cells #[.int .i64 (1 + p), .string key, .int .u32 (wd : Int)] 25)) := hBa.trans (((Below.refl _ _).alloc (Nat.le_refl _) (.cells #[.int .i64 (1 + p), .string key, .int .u32 (wd : Int)] 25)).mono hBa.size)
        have one1 := one_node wa ⟨1 + p, key, wd⟩
        have ho1' := ho1.below ((Below.refl _ _).alloc (Nat.le_refl _) (.cells #[.int .i64 (1 + p), .string key, .int .u32 (wd : Int)] 25))
        refine hK.out _ _ hBc (fun _ => ?_)
        clear hK K
        try simp only [Act.put, List.setIfInBounds_toArray, List.set_cons_zero, List.set_cons_succ]
        refine wpAnyH_ready (rs := [4]) (by kernel_rfl) (by simp) ?_
        refine AllReadyH.cons rfl (fun K hK => ?_) AllReadyH.nil
        refine step_pushNs (w := (wa.alloc (.cells #[.int .i64 (1 + p), .string key, .int .u32 (wd : Int)] 25))) (o := ⟨some 30, _, _, _, _, _⟩) rfl (.tmp 27) (.tmp 29) 28 (by rfl) W0.drew.heap.size inf Tryz.underlying28 hif hif1 hif2 hif3 v1 ([] ++ l) (by simp [Act.eval]) ho1' _ _ [⟨1 + p, key, wd⟩] 1 1 rfl (by simp [Act.eval]) one1 (by simp; omega) (hBc.size) ?_
        intro v2 wb ho2 hbb
        have hBb : Below W0.heap.size W0 wb := hBc.trans hbb
        refine hK.out _ _ hBb (fun _ => ?_)
        clear hK K
        try simp only [Act.put, List.setIfInBounds_toArray, List.set_cons_zero, List.set_cons_succ]
        refine wpAnyH_ready (rs := [5]) (by kernel_rfl) (by simp) ?_
        refine AllReadyH.cons rfl (fun K hK => ?_) AllReadyH.nil
        obtain ⟨l6, hl6⟩ : ∃ l6, l6 = [] ++ l ++ [(⟨1 + p, key, wd⟩ : Nd)] := ⟨_, rfl⟩
        rw [← hl6] at ho2
        have HL6 := Lib.hid hl6
        clear hl6
        obtain ⟨A6, c6, rfl, hr6⟩ := ho2.read
        have HI := Lib.hid (ris_any A6 l6 c6 wb hr6 (by rw [HL6.out]; intro x hx; simp at hx; rcases hx with hx | rfl; exact Nat.lt_trans (HW.out x hx) (by decide); exact Nat.lt_trans hwd (by decide)))
        go_simp
        refine (HI.out).mono ?_
        rintro e w7 ⟨rfl, hb7⟩
        have hB7 : Below W0.heap.size W0 w7 := hBb.trans (hb7.mono hBb.size)
        refine hK.out _ _ hB7 (fun _ => ?_)
        clear hK K
        try simp only [Act.put, List.setIfInBounds_toArray, List.set_cons_zero, List.set_cons_succ]
        refine wpAnyH_done (by kernel_rfl) ?_ _
        clear HI ho2 hr6
        have y0 := (hB7.cell (p := ⟨X, 0, none⟩) hXlt).trans r0'
        have y1 := (hB7.cell (p := ⟨X, 1, none⟩) hXlt).trans r1'
        have y2 := (hB7.cell (p := ⟨X, 2, none⟩) hXlt).trans r2'
        have s7 := s5.below hB7
        have o7 := o5.below hB7
        by_cases hchk : chkV l6 = 0
        · have hd : (chkV l6 == 0) = true := by simpa using hchk
          have hsz : w.heap.size ≤ w7.heap.size := s7.2.size
          go_wp2_with (at_builtin; refine wpList_pushN rfl _ _ 28 rfl w.heap.size inf Tryz.underlying28 hif hif1 hif2 hif3 (.slice A l.length c) l _ ⟨1 + p, key, wd⟩ rfl o7 rfl (by omega) hsz ?_; intro v3 w8 ho8 hb8; obtain ⟨l8, hl8⟩ : ∃ l8, l8 = l ++ [(⟨1 + p, key, wd⟩ : Nd)] := ⟨_, rfl⟩; rw [← hl8] at ho8; have hln8 : l8.length = l.length + 1 := (by rw [hl8]; simp); have HL8 := Lib.hid hl8; have HLN := Lib.hid hln8; clear hl8 hln8; obtain ⟨A8, c8, rfl, -⟩ := ho8.read)
          have e8 : l8 = l6 := by rw [HL8.out, HL6.out]; rfl
          refine ⟨⟨A8, c8, k - 1, l8, rfl, by congr 1; omega, by omega, by have := HLN.out; omega, ho8, Lib.hid (by rw [HL8.out]; intro x hx; simp at hx; rcases hx with hx | rfl; exact HW.out x hx; exact hwd), Lib.hid (by rw [e8]; exact hchk), ?_⟩, by simp [intOf]; omega⟩
          have hgs := hg
          exact s7.below_base hg hb8
        · have hd : (chkV l6 == 0) = false := by simpa using hchk
          go_wp2_with fail
          exact ⟨⟨A, c, k - 1, l, rfl, by congr 1; omega, by omega, by omega, o7, HW, HC, s7⟩, by simp [intOf]; omega⟩
      · go_simp
        have hBc : Below W0.heap.size W0 (W0.drew.alloc (.cells #[.int .i64 (1 + p), .string key, .int .u32 (wd : Int)] 25)) := hS0.trans (((Below.refl _ _).alloc (Nat.le_refl _) (.cells #[.int .i64 (1 + p), .string key, .int .u32 (wd : Int)] 25)).mono hS0.size)
        have one1 := one_node W0.drew ⟨1 + p, key, wd⟩
        refine hK.out _ _ hBc (fun _ => ?_)
        clear hK K
        try simp only [Act.put, List.setIfInBounds_toArray, List.set_cons_zero, List.set_cons_succ]
        refine wpAnyH_ready (rs := [1]) (by kernel_rfl) (by simp) ?_
        refine AllReadyH.cons rfl (fun K hK => ?_) AllReadyH.nil
        have nd1 : Nds (W0.drew.alloc (.cells #[.int .i64 (1 + p), .string key, .int .u32 (wd : Int)] 25)) W0.heap.size A l := hnd.below hBc
        refine step_pushNs (w := (W0.drew.alloc (.cells #[.int .i64 (1 + p), .string key, .int .u32 (wd : Int)] 25))) (o := ⟨some 27, _, _, _, _, _⟩) rfl (.const (.slice none 0 0)) (.tmp 26) 28 (by rfl) (W0.drew.alloc (.cells #[.int .i64 (1 + p), .string key, .int .u32 (wd : Int)] 25)).heap.size inf Tryz.underlying28 hif hif1 hif2 hif3 (.slice none 0 0) [] (by simp [Act.eval]) (OwnN.nil _ _) W0.heap.size A l l.length c rfl (by simp [Act.eval]) nd1 (by simp; omega) (Nat.le_refl _) ?_
        intro v1 wa ho1 hba
        have hBa : Below W0.heap.size W0 wa := hBc.trans (hba.mono hBc.size)
        have one2 := one1.below (hba.mono (by rw [World.size_alloc]; exact Nat.le_refl _))
        refine hK.out _ _ hBa (fun _ => ?_)
        clear hK K
        try simp only [Act.put, List.setIfInBounds_toArray, List.set_cons_zero, List.set_cons_succ]
        refine wpAnyH_ready (rs := [4]) (by kernel_rfl) (by simp) ?_
        refine AllReadyH.cons rfl (fun K hK => ?_) AllReadyH.nil
        refine step_pushNs (w := wa) (o := ⟨some 30, _, _, _, _, _⟩) rfl (.tmp 27) (.tmp 29) 28 (by rfl) (W0.drew.alloc (.cells #[.int .i64 (1 + p), .string key, .int .u32 (wd : Int)] 25)).heap.size inf Tryz.underlying28 hif hif1 hif2 hif3 v1 ([] ++ l) (by simp [Act.eval]) ho1 _ _ [⟨1 + p, key, wd⟩] 1 1 rfl (by simp [Act.eval]) one2 (by simp; omega) (hba.size) ?_
        intro v2 wb ho2 hbb
        have hBb : Below W0.heap.size W0 wb := hBa.trans (hbb.mono hBc.size)
        refine hK.out _ _ hBb (fun _ => ?_)
        clear hK K
        try simp only [Act.put, List.setIfInBounds_toArray, List.set_cons_zero, List.set_cons_succ]
        refine wpAnyH_ready (rs := [5]) (by kernel_rfl) (by simp) ?_
        refine AllReadyH.cons rfl (fun K hK => ?_) AllReadyH.nil
        obtain ⟨l6, hl6⟩ : ∃ l6, l6 = [] ++ l ++ [(⟨1 + p, key, wd⟩ : Nd)] := ⟨_, rfl⟩
        rw [← hl6] at ho2
        have HL6 := Lib.hid hl6
        clear hl6
        obtain ⟨A6, c6, rfl, hr6⟩ := ho2.read
        have HI := Lib.hid (ris_any A6 l6 c6 wb hr6 (by rw [HL6.out]; intro x hx; simp at hx; rcases hx with hx | rfl; exact Nat.lt_trans (HW.out x hx) (by decide); exact Nat.lt_trans hwd (by decide)))
        go_simp
        refine (HI.out).mono ?_
        rintro e w7 ⟨rfl, hb7⟩
        have hB7 : Below W0.heap.size W0 w7 := hBb.trans (hb7.mono hBb.size)
        refine hK.out _ _ hB7 (fun _ => ?_)
        clear hK K
        try simp only [Act.put, List.setIfInBounds_toArray, List.set_cons_zero, List.set_cons_succ]
        refine wpAnyH_done (by kernel_rfl) ?_ _
        clear HI ho2 hr6
        have y0 := (hB7.cell (p := ⟨X, 0, none⟩) hXlt).trans r0'
        have y1 := (hB7.cell (p := ⟨X, 1, none⟩) hXlt).trans r1'
        have y2 := (hB7.cell (p := ⟨X, 2, none⟩) hXlt).trans r2'
        have s7 := s5.below hB7
        have o7 := o5.below hB7
        by_cases hchk : chkV l6 = 0
        · have hd : (chkV l6 == 0) = true := by simpa using hchk
          have hsz : w.heap.size ≤ w7.heap.size := s7.2.size
          go_wp2_with (at_builtin; refine wpList_pushN rfl _ _ 28 rfl w.heap.size inf Tryz.underlying28 hif hif1 hif2 hif3 (.slice A l.length c) l _ ⟨1 + p, key, wd⟩ rfl o7 rfl (by omega) hsz ?_; intro v3 w8 ho8 hb8; obtain ⟨l8, hl8⟩ : ∃ l8, l8 = l ++ [(⟨1 + p, key, wd⟩ : Nd)] := ⟨_, rfl⟩; rw [← hl8] at ho8; have hln8 : l8.length = l.length + 1 := (by rw [hl8]; simp); have HL8 := Lib.hid hl8; have HLN := Lib.hid hln8; clear hl8 hln8; obtain ⟨A8, c8, rfl, -⟩ := ho8.read)
          have e8 : l8 = l6 := by rw [HL8.out, HL6.out]; rfl
          refine ⟨⟨A8, c8, k - 1, l8, rfl, by congr 1; omega, by omega, by have := HLN.out; omega, ho8, Lib.hid (by rw [HL8.out]; intro x hx; simp at hx; rcases hx with hx | rfl; exact HW.out x hx; exact hwd), Lib.hid (by rw [e8]; exact hchk), ?_⟩, by simp [intOf]; omega⟩
          have hgs := hg
          exact s7.below_base hg hb8
        · have hd : (chkV l6 == 0) = false := by simpa using hchk
          go_wp2_with fail
          exact ⟨⟨A, c, k - 1, l, rfl, by congr 1; omega, by omega, by omega, o7, HW, HC, s7⟩, by simp [intOf]; omega⟩
end Go.Proofs.YtjokbdhineilcaaGreatDoor
