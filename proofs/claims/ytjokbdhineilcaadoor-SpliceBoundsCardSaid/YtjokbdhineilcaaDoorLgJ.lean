/-
  Owner of package roster where there is none, Some and ID of the tape: what they answer. Conditions: the nodes can be read; the tape; 'letters' is as the program's text lays it.
  Some and ID of the tape: what they give. Conditions: the tape; 'letters' is as the program's text lays it; the nodes can be read.
-/
import Derived.Test.YtjokbdhineilcaaDoorLgG
import Derived.Test.YtjokbdhineilcaaDoorKdR
import Derived.Test.YtjokbdhineilcaaDoorLwQ
namespace Go.Proofs.YtjokbdhineilcaaDoor
section
open Go.RowKit

end
section
open Go.RowKit

/-- What Some gives: 1 to n nodes, a roster. -/
def SomP (n g : Nat) (w : World) (e : Ending) (w' : World) : Prop := ∃ A c l, e = .returned (.slice A (l : List Nd).length c) ∧ OwnN w' w.heap.size (.slice A l.length c) l ∧ l ≠ [] ∧ l.length ≤ n ∧ chkV l = 0 ∧ TStep w g w'
theorem OwnN.one (w : World) (base : Nat) (x : Nd) (hb : base ≤ w.heap.size) : OwnN (w.alloc (.cells #[.int .i64 x.id, .string x.key, .int .u32 (x.word : Int)] 30)) base (.slice (some ⟨w.heap.size, 0, none⟩) 1 1) [x] :=
  ⟨rfl, .inr ⟨w.heap.size, 1, #[.int .i64 x.id, .string x.key, .int .u32 (x.word : Int)], rfl, hb, heap_alloc_new w _, Nat.le_refl _, by unfold maxLen; simp, rfl, rfl⟩⟩
theorem chkV_one {x : Nd} (h : Nd.ok x = true) : chkV [x] = 0 := chkV_zero.2 ⟨by simp, by simp [h], by simp⟩

set_option maxRecDepth 100000 in
set_option maxHeartbeats 1600000 in
theorem some_any (n : Nat) (g : Nat) (w : World) (hn1 : 1 ≤ n) (hn : n ≤ 60) (ht : Tape w g) (hl : Lets w) (hne : 0 ≠ g) :
    Calls Tryd.prog 7 #[.pointer (some ⟨g, 0, none⟩), .int .i64 (n : Int)] w (SomP n g w) := by
  have hg := ht.lt
  have HR := Lib.hid (roster_any n g w hn1 hn ht hl hne)
  have w2' : IntKind.i64.wrap (3 * (n : Int)) = 3 * (n : Int) := IntWalk.i64_in _ (by omega)
  clear ht
  go_enter Tryd.func7, Tryd.ntmps7
  go_wp2_with fail
  refine (HR.out).mono ?_
  rintro e w1 ⟨A, c, l, rfl, ho, hln, hwd, hchk, hst⟩
  by_cases h0 : l = []
  · subst h0
    have hl1 := hl.step hne hst
    clear ho hwd hchk HR hl
    go_wp2_with fail
    refine (next_any g _ _ hst.1 (by omega)).mono ?_
    rintro e w2 ⟨p, p0, p1, rfl, hst2⟩
    have s2 := hst.trans hst2
    have hl2 := hl1.step hne hst2
    clear hst hst2 hl1
    have w3' : IntKind.i64.wrap (1 + p) = 1 + p := IntWalk.i64_in _ (by omega)
    go_wp2_with fail
    refine (key_any g _ s2.1 hl2 hne).mono ?_
    rintro e w3 ⟨key, hkey, rfl, hst3⟩
    have s3 := s2.trans hst3
    clear s2 hst3 hl2
    go_wp2_with fail
    refine (word_any g _ s3.1).mono ?_
    rintro e w4 ⟨wd, hwd, rfl, hst4⟩
    have s4 := s3.trans hst4
    clear s3 hst4
    have HK := Lib.hid hkey
    have HP := Lib.hid p1
    clear hkey p1
    go_wp2_with fail
    go_ret
    refine ⟨_, 1, [⟨1 + p, key, wd⟩], rfl, OwnN.one w4 w.heap.size ⟨1 + p, key, wd⟩ s4.2.size, by simp, hn1, chkV_one ?_, s4.alloc _⟩
    have h1 := HK.out
    have h2 := HP.out
    simp [Nd.ok, vk, hwd]
    omega
  · have hl1 : 1 ≤ l.length := by
      cases l with
      | nil => exact absurd rfl h0
      | cons x l => simp
    have hl0 : ((l.length : Int) == 0) = false := by simp; omega
    clear hl HR
    go_wp2_with fail
    go_ret
    exact ⟨A, c, l, rfl, ho, h0, hln, hchk, hst⟩

/-- What ID gives. -/
def IdP (g : Nat) (w : World) (e : Ending) (w' : World) : Prop := ∃ v : Int, e = .returned (.int .i64 v) ∧ TStep w g w'
end
end Go.Proofs.YtjokbdhineilcaaDoor
