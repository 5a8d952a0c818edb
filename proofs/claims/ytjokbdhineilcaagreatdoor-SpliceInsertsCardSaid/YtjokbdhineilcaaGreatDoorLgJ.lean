/-
  Owner of package roster where there is none, Some and ID of the tape: what they answer. Conditions: the nodes can be read; the tape; 'letters' is as the program's text lays it.
  Some and ID of the tape: what they give. Conditions: the tape; 'letters' is as the program's text lays it; the nodes can be read.
-/
import Derived.Test.YtjokbdhineilcaaGreatDoorLgG
import Derived.Test.YtjokbdhineilcaaGreatDoorKdR
import Derived.Test.YtjokbdhineilcaaGreatDoorLwQ
namespace Go.Proofs.YtjokbdhineilcaaGreatDoor
section
open Go.RowKit

end
section
open Go.RowKit

/-- What Some gives: 1 to n nodes, a roster. -/
def SomP (n g : Nat) (w : World) (e : Ending) (w' : World) : Prop := ∃ A c l, e = .returned (.slice A (l : List Nd).length c) ∧ OwnN w' w.heap.size (.slice A l.length c) l ∧ l ≠ [] ∧ l.length ≤ n ∧ chkV l = 0 ∧ TStep w g w'
theorem OwnN.one (w : World) (base : Nat) (x : Nd) (hb : base ≤ w.heap.size) : OwnN (w.alloc (.cells #[.int .i64 x.id, .string x.key, .int .u32 (x.word : Int)] 25)) base (.slice (some ⟨w.heap.size, 0, none⟩) 1 1) [x] :=
  ⟨rfl, .inr ⟨w.heap.size, 1, #[.int .i64 x.id, .string x.key, .int .u32 (x.word : Int)], rfl, hb, heap_alloc_new w _, Nat.le_refl _, by unfold maxLen; simp, rfl, rfl⟩⟩
theorem chkV_one {x : Nd} (h : Nd.ok x = true) : chkV [x] = 0 := chkV_zero.2 ⟨by simp, by simp [h], by simp⟩

set_option maxRecDepth 100000 in
set_option maxHeartbeats 1600000 in
theorem some_any (n : Nat) (g : Nat) (w : World) (hn1 : 1 ≤ n) (hn : n ≤ 60) (ht : Tape w g) (hl : Lets w) (hne : 0 ≠ g) :
    Calls Tryz.prog 9 #[.pointer (some ⟨g, 0, none⟩), .int .i64 (n : Int)] w (SomP n g w) := by
  have hg := ht.lt
  have HR := Lib.hid (roster_any n g w hn1 hn ht hl hne)
  have w2' : IntKind.i64.wrap (3 * (n : Int)) = 3 * (n : Int) := IntWalk.i64_in _ (by omega)
  clear ht
  go_enter Tryz.func9, Tryz.ntmps9
  go_wp2_with fail
  refine (HR.out).mono ?_
  rintro e w1 ⟨A, c, l, rfl, ho, hln, hwd, hchk, hst⟩
  by_cases h0 : l = []
  · subst h0
    have hl1 := hl.step hne hst
    clear ho hwd hchk HR hl
    go_wp2_with fail
    refine (next_any g _ _ hst.1 (by omega)).mono ?_
    rintro e w2 ⟨p, p0, p1, rfl, hst2⟩
    have s2 := hst.trans hst2
    have hl2 := hl1.step hne hst2
    clear hst hst2 hl1
    have w3' : IntKind.i64.wrap (1 + p) = 1 + p := IntWalk.i64_in _ (by omega)
    go_wp2_with fail
    refine (key_any g _ s2.1 hl2 hne).mono ?_
    rintro e w3 ⟨key, hkey, rfl, hst3⟩
    have s3 := s2.trans hst3
    clear s2 hst3 hl2
    go_wp2_with fail
    refine (word_any g _ s3.1).mono ?_
    rintro e w4 ⟨wd, hwd, rfl, hst4⟩
    have s4 := s3.trans hst4
    clear s3 hst4
    have HK := Lib.hid hkey
    have HP := Lib.hid p1
    clear hkey p1
    go_wp2_with fail
    go_ret
    refine ⟨_, 1, [⟨1 + p, key, wd⟩], rfl, OwnN.one w4 w.heap.size ⟨1 + p, key, wd⟩ s4.2.size, by simp, hn1, chkV_one ?_, s4.alloc _⟩
    have h1 := HK.out
    have h2 := HP.out
    simp [Nd.ok, vk, hwd]
    omega
  · have hl1 : 1 ≤ l.length := by
      cases l with
      | nil => exact absurd rfl h0
      | cons x l => simp
    have hl0 : ((l.length : Int) == 0) = false := by simp; omega
    clear hl HR
    go_wp2_with fail
    go_ret
    exact ⟨A, c, l, rfl, ho, h0, hln, hchk, hst⟩

/-- What ID gives. -/
def IdP (g : Nat) (w : World) (e : Ending) (w' : World) : Prop := ∃ v : Int, e = .returned (.int .i64 v) ∧ TStep w g w'
set_option maxRecDepth 100000 in
set_option maxHeartbeats 1600000 in
theorem id_any (A : Option Addr) (l : List Nd) (c : Nat) (g : Nat) (w : World) (ht : Tape w g) (hl : Nds w w.heap.size A l) (hn : l.length ≤ 100000) (hA : ∀ b o, A = some ⟨b, o, none⟩ → b ≠ g) :
    Calls Tryz.prog 10 #[.pointer (some ⟨g, 0, none⟩), .slice A l.length c] w (IdP g w) := by
  have hg := ht.lt
  have HPK : Hid (∀ w1, TStep w g w1 → Calls Tryz.prog 11 #[.pointer (some ⟨g, 0, none⟩), .slice (some ⟨w1.heap.size, 0, none⟩) 5 5] (w1.alloc (.cells #[.int .i64 0, .int .i64 (-1), .int .i64 999, .int .i64 4611686018427387904, .int .i64 1] 3)) (PickP [0, -1, 999, 4611686018427387904, 1] g (w1.alloc (.cells #[.int .i64 0, .int .i64 (-1), .int .i64 999, .int .i64 4611686018427387904, .int .i64 1] 3)))) := Lib.hid fun w1 hst => by
    have hz := hst.2.size
    have sN := hst.alloc (.cells #[.int .i64 0, .int .i64 (-1), .int .i64 999, .int .i64 4611686018427387904, .int .i64 1] 3)
    have hV := Has.new w1 3 #[.int .i64 0, .int .i64 (-1), .int .i64 999, .int .i64 4611686018427387904, .int .i64 1]
    refine pick_any g w1.heap.size 5 [0, -1, 999, 4611686018427387904, 1] _ sN.1 (by simp) (by simp) (by simp) (by omega) (fun i hi => ?_)
    rw [hV.cell]
    have h5 : i = 0 ∨ i = 1 ∨ i = 2 ∨ i = 3 ∨ i = 4 := by simp at hi; omega
    rcases h5 with rfl | rfl | rfl | rfl | rfl <;> rfl
  by_cases h0 : l = []
  · subst h0
    have hst := TStep.refl ht
    clear hA hl
    go_enter Tryz.func10, Tryz.ntmps10
    go_wp2_with fail
    refine (HPK.out w hst).mono ?_
    rintro e w2 ⟨v, hv, rfl, hst2⟩
    clear hv
    go_wp2_with fail
    go_ret
    exact ⟨v, rfl, (hst.alloc _).trans hst2⟩
  · have hl1 : 1 ≤ l.length := by
      cases l with
      | nil => exact absurd rfl h0
      | cons x l => simp
    have hl0 : ((l.length : Int) == 0) = false := by simp; omega
    go_enter Tryz.func10, Tryz.ntmps10
    go_wp2_with fail
    refine (bool_any g _ _ ht (by omega) (by omega)).mono ?_
    rintro e w1 ⟨b, rfl, hst⟩
    cases b
    · clear HPK
      go_wp2_with fail
      refine (next_any g _ _ hst.1 (by omega)).mono ?_
      rintro e w2 ⟨r, r0, r1, rfl, hst2⟩
      have s2 := hst.trans hst2
      obtain ⟨k, rfl⟩ : ∃ k : Nat, r = (k : Int) := ⟨r.toNat, by omega⟩
      have hk : k < l.length := by omega
      obtain ⟨b, o, rfl, hb, f1, f2, f3⟩ := hl.at_ hk
      have F1 := (World.cell?_of_block (a := ⟨b, o + k * 3, none⟩) (s2.2.block b hb (fun e => hA b o rfl (Option.some.inj e)))).trans f1
      generalize l[k] = y at *
      obtain ⟨yi, yk, yw⟩ := y
      have k1 : (k : Int) < (l.length : Int) := by omega
      clear f1 f2 f3 r1 hst hst2 hl hl0 hA
      go_wp2_with fail
      go_ret
      exact ⟨yi, rfl, s2⟩
    · have HP := Lib.hid (HPK.out w1 hst)
      clear HPK hl hA
      go_wp2_with fail
      refine (HP.out).mono ?_
      rintro e w2 ⟨v, hv, rfl, hst2⟩
      clear hv
      go_wp2_with fail
      go_ret
      exact ⟨v, rfl, (hst.alloc _).trans hst2⟩
end
end Go.Proofs.YtjokbdhineilcaaGreatDoor
