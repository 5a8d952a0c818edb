/-
  From a law's walk to its statement: what the arguments give the walk, and what the walk's end gives the statement.
  Keys from the tape: strings of at most 65 bytes. Condition: 'letters' holds six strings of one byte, and is not the tape.
  What the listed variable gives the walk: letters.
-/
import Derived.Test.YtmhbloefmknikaaGreatDoorKwL
import Derived.Test.YtmhbloefmknikaaGreatDoorKbA
import Derived.Test.YtmhbloefmknikaaGreatDoorKbP
import Derived.Test.YtmhbloefmknikaaGreatDoorRows
import Derived.ProofKit
import Derived.LaidMore
import Derived.OpenShut
import Derived.Stop.Joined
import Derived.Lib.SmallJoins
import Derived.Deep.DeepHandedRow
import Derived.Test.YtmhbloefmknikaaGreatDoorKwT
import Derived.Test.YtmhbloefmknikaaGreatDoorCards
import Derived.Test.YtmhbloefmknikaaGreatDoorTie
namespace Go.Proofs.YtmhbloefmknikaaGreatDoor
section
open Go.ChangeShapes Go.WideShapes Go.ChangeAt Go.RowKit Go.Joins
open Go.ChangeMaps (setBlock open_string)
set_option maxRecDepth 100000

theorem own : ownKnob Tryz.prog.godebug = none := by kernel_rfl
theorem laidOut : laidOutB Tryz.prog = true := by kernel_rfl
theorem cInt : Tryz.prog.cellsOf 3 = 1 := by kernel_rfl

section
variable {H : Type} {enc : TypeId × Value → H}
/-- A slice of ints that came in. -/
theorem nums_of {W : World} {b0 : Nat} {v : Value} {d : DataW H} {p : List MemPlace} (hv : Value.okWide Tryz.prog W .any b0 22 v) (h : DataW.Trod enc Tryz.prog W 0 (fun _ => true) true 22 v d p) :
    ∃ A n c, v = .slice A n c ∧ n ≤ c ∧ c ≤ maxLen ∧ Nums W W.heap.size A n := by
  obtain ⟨a0, len, cap, rfl⟩ := okWide_slice Tryz.underlying22 hv
  obtain ⟨fuel, hf⟩ := h
  rcases open_ints Tryz.underlying22 Tryz.underlying3 cInt hf with ⟨hcs, hx⟩ | ⟨a, len', cap', zs, hcs, _, hl, hm, hz, hx, hcell, hwz⟩
  · simp [Value.cells] at hcs
    obtain ⟨rfl, rfl, rfl⟩ := hcs
    exact ⟨_, _, _, rfl, Nat.le_refl _, by unfold maxLen; omega, fun h => absurd h (by omega)⟩
  · simp [Value.cells] at hcs
    obtain ⟨rfl, rfl, rfl⟩ := hcs
    simp only [if_true] at hz
    refine ⟨_, _, _, rfl, hl, hm, fun hn => ?_⟩
    obtain ⟨b, off, rfl, hc⟩ := ints_at hcell (by omega)
    have h0 := hc 0 (by omega)
    refine ⟨b, off, rfl, World.block_lt_of_cell? W _ h0, fun i hi => ?_⟩
    have hw := hwz (zs.getD i 0) (by rw [List.getD_eq_getElem?_getD, List.getElem?_eq_getElem (by omega)]; simp)
    have hbd := bounds_i64 hw
    exact ⟨_, hbd.1, hbd.2, hc i (by omega)⟩

theorem int_of {W : World} {b0 : Nat} {v : Value} {d : DataW H} {p : List MemPlace} (hv : Value.okWide Tryz.prog W .any b0 3 v) (h : DataW.Trod enc Tryz.prog W 0 (fun _ => true) true 3 v d p) : ∃ n : Int, v = .int .i64 n ∧ -9223372036854775808 ≤ n ∧ n ≤ 9223372036854775807 := by
  obtain ⟨n, e, _, _, hw⟩ := open_int Tryz.underlying3 hv h
  exact ⟨n, e, bounds_i64 hw⟩
theorem trodAll_below {ts : List TypeId} (hr : ∀ t ∈ ts, Tryz.prog.readableRec t = true ∧ t < Tryz.prog.types.size) {W W' : World} (hb : Below W.heap.size W W') :
    ∀ {vs : List Value} {ds : List (DataW H)} {ps : List MemPlace}, DataW.TrodAll enc Tryz.prog W 0 (fun _ => true) true ts vs ds ps → (∀ x ∈ ps, x.block < W.heap.size) → DataW.TrodAll enc Tryz.prog W' 0 (fun b => decide (b < W.heap.size)) true ts vs ds ps := by
  induction ts with
  | nil =>
    intro vs ds ps h _
    obtain ⟨rfl, rfl, rfl⟩ := trodAll_nil h
    exact trodAll_mk0
  | cons t ts ih =>
    intro vs ds ps h hlt
    obtain ⟨v, vs', d, ds', p, q, rfl, rfl, rfl, h1, h2⟩ := trodAll_cons h
    obtain ⟨r1, r2⟩ := hr t (.head _)
    exact trodAll_cons_mk (Below.trod laidOut r1 r2 h1 hb (fun x hx => hlt x (by simp [hx]))) (ih (fun u hu => hr u (.tail _ hu)) h2 (fun x hx => hlt x (by simp [hx])))

/-- The end of a law's call. -/
theorem law_post {f : Func} {s : ChangeSpec} {W W' : World} {args : Array Value} {ds : List (DataW H)} {before : List MemPlace} (hW : DataW.Whole enc Tryz.prog f.params.toList s.vars false W args.toList ds [] before)
    (hv : s.vars = []) (hres : f.resultTypes = #[4]) (hfn : (s.fn H (ds ++ [])).results = [.lit (.bool true)] ∧ (s.fn H (ds ++ [])).args = ds ∧ (s.fn H (ds ++ [])).vars = [])
    (hr : ∀ t ∈ f.params.toList, Tryz.prog.readableRec t = true ∧ t < Tryz.prog.types.size) (hb : Below W.heap.size W W') : s.post enc Tryz.prog f false true false false W args (.bool true) W' := by
  have hW' := hW
  obtain ⟨p, q, hA, hV, rfl, _, _⟩ := hW
  rw [hv] at hV
  obtain ⟨_, rfl⟩ := trodVars_none hV
  rw [List.append_nil] at hW'
  refine ⟨ds, [], p, [], p, [], hW', ?_, ?_, ?_, hb.frame _, fun h => by cases h⟩
  · rw [hfn.1, hres]
    exact trodAll_mk1 (shut_bool Tryz.underlying4 _)
  · rw [hfn.2.1]
    exact trodAll_below hr hb hA (fun x hx => hW'.lt x hx)
  · rw [hfn.2.2, hv]
    rfl
end
end
section
open Go.RowKit

/-- 'letters' holds six strings of one byte. -/
def Lets (w : World) : Prop := ∀ i, i < 6 → ∃ s : ByteArray, s.size = 1 ∧ w.cell? ⟨0, i, none⟩ = some (.string s)
theorem Lets.lt {w : World} (h : Lets w) : 0 < w.heap.size := by
  obtain ⟨s, _, hc⟩ := h 0 (by omega)
  exact World.block_lt_of_cell? w _ hc
theorem Lets.keep {w w' : World} (h : Lets w) (k : w'.heap[0]? = w.heap[0]?) : Lets w' := fun i hi => by
  obtain ⟨s, h1, h2⟩ := h i hi
  exact ⟨s, h1, (World.cell?_of_block (w := w) k).trans h2⟩
theorem Lets.below {w w' : World} (h : Lets w) (k : Below w.heap.size w w') : Lets w' := h.keep (k.block _ h.lt)
theorem Lets.step {w w' : World} {g : Nat} (h : Lets w) (hg : 0 ≠ g) (k : TStep w g w') : Lets w' := h.keep (k.2.block _ h.lt (fun e => hg (Option.some.inj e)))

/-- What long gives: a string of n bytes. -/
def LongP (n : Nat) (w : World) (e : Ending) (w' : World) : Prop := ∃ s : ByteArray, s.size = n ∧ e = .returned (.string s) ∧ w = w'
theorem longP_mk {n : Nat} {w : World} {s : ByteArray} (h : s.size = n) : LongP n w (.returned (.string s)) w := ⟨s, h, rfl, rfl⟩

set_option maxHeartbeats 800000 in
theorem long_any (s : ByteArray) (hs : s.size = 1) (n : Nat) (hn : n ≤ 1000) (w : World) :
    Calls Tryz.prog 116 #[.string s, .int .i64 (n : Int)] w (LongP n w) := by
  have hs' : s.size ≤ 1 := by omega
  have HS : Hid (s.size = 1) := hs
  clear hs
  go_enter Tryz.func116, Tryz.ntmps116
  go_wp2
  go_loop [5, 6] (fun out i => ∃ (k : Nat) (x : ByteArray), k ≤ n ∧ x.size = k ∧ i = .int .i64 k ∧ out = .string x) (fun _ i => n - (intOf i).toNat)
  case atStart => exact ⟨0, ByteArray.empty, Nat.zero_le _, rfl, rfl, rfl⟩
  case round =>
    obtain ⟨k, x, hk, hx, rfl, rfl⟩ := hrel
    have hx' : x.size ≤ 1000 := by omega
    have HX : Hid (x.size = k) := hx
    clear hx
    by_cases hlt : k < n
    · go_wp2
      go_round
      case rel => exact ⟨k + 1, x ++ s, by omega, by rw [ByteArray.size_append, HX.out, HS.out], by go_num, rfl⟩
      case measure => simp [intOf]; omega
    · go_wp2
      go_ret
      exact longP_mk (by have := HX.out; omega)

/-- What Key and OddKey give: a string of at most m bytes. -/
def KeyP (m g : Nat) (w : World) (e : Ending) (w' : World) : Prop := ∃ s : ByteArray, s.size ≤ m ∧ e = .returned (.string s) ∧ TStep w g w'
theorem keyP_mk {m g : Nat} {w w' : World} {s : ByteArray} (h : s.size ≤ m) (k : TStep w g w') : KeyP m g w (.returned (.string s)) w' := ⟨s, h, rfl, k⟩

/-- The letter that Next(6) picks. -/
theorem Lets.letter {w1 : World} (h : Lets w1) {r : Int} (r1 : r < 6 ∨ r = 0) : ∃ s : ByteArray, s.size = 1 ∧ w1.cell? ⟨0, r.toNat, none⟩ = some (.string s) := h _ (by omega)
theorem next_lt {r n : Int} (h : r < n ∨ r = 0) (hn : 1 ≤ n) : r < n := by omega

set_option maxHeartbeats 3200000 in
theorem key_any (g : Nat) (w : World) (ht : Tape w g) (hl : Lets w) (hne : 0 ≠ g) :
    Calls Tryz.prog 87 #[.pointer (some ⟨g, 0, none⟩)] w (KeyP 64 g w) := by
  have hst := TStep.refl ht
  clear ht
  go_enter Tryz.func87, Tryz.ntmps87
  go_wp2_with (first | (go_at_call 11; refine (next_any g _ _ hst.1 (by omega)).mono ?_; rintro e w1 ⟨r, r0, r1, rfl, hst1⟩; replace hst := hst.trans hst1; clear hst1; first | (obtain ⟨s, hs, hlc⟩ := (hl.step hne hst).letter r1; have r2 := next_lt r1 (by decide); clear r1; have HS := Lib.hid hs; have hs1 : s.size ≤ 1 := (by omega); clear hs) | (have r2 := next_lt r1 (by decide); clear r1)) | (go_at_call 116; refine (long_any _ HS.out 64 (by omega) _).mono ?_; rintro e w2 ⟨s2, hs2, rfl, rfl⟩))
  · go_ret
    exact keyP_mk (by omega) hst
  · go_ret
    exact keyP_mk (by decide) hst
  · go_loopw [3, 4] (fun out i wr => ∃ (k : Nat) (x : ByteArray), x.size + k ≤ 3 ∧ i = .int .i64 k ∧ out = .string x ∧ TStep w g wr) (fun _ i _ => (intOf i).toNat)
    case atStart => exact ⟨(1 + r).toNat, ByteArray.empty, by (show 0 + (1 + r).toNat ≤ 3; omega), by rw [Int.toNat_of_nonneg (by omega)], rfl, hst⟩
    case round =>
      obtain ⟨k, x, hx, rfl, rfl, hst⟩ := hrel
      by_cases hlt : 0 < k
      · go_wp2_with (first | (go_at_call 11; refine (next_any g _ _ hst.1 (by omega)).mono ?_; rintro e w1 ⟨r, r0, r1, rfl, hst1⟩; replace hst := hst.trans hst1; clear hst1; first | (obtain ⟨s, hs, hlc⟩ := (hl.step hne hst).letter r1; have r2 := next_lt r1 (by decide); clear r1; have HS := Lib.hid hs; have hs1 : s.size ≤ 1 := (by omega); clear hs) | (have r2 := next_lt r1 (by decide); clear r1)) | (go_at_call 116; refine (long_any _ HS.out 64 (by omega) _).mono ?_; rintro e w2 ⟨s2, hs2, rfl, rfl⟩))
        go_roundw
        case rel => exact ⟨k - 1, x ++ s, by rw [ByteArray.size_append]; omega, by congr 1; omega, rfl, hst⟩
        case measure => simp [intOf]; omega
      · go_wp2
        go_ret
        exact keyP_mk (by omega) hst

end
section
open Go.ChangeShapes Go.WideShapes Go.ChangeAt Go.RowKit Go.Joins
set_option maxRecDepth 100000

theorem gLet : Tryz.prog.globalNamed "skipgraph/skipgraphworld.letters" = some 0 := by kernel_rfl
theorem tLet : (Tryz.prog.globals[0]?).map (·.type) = some 98 := by kernel_rfl
theorem cStr : Tryz.prog.cellsOf 9 = 1 := by kernel_rfl

/-- What the laws' rows list. -/
def laidL : List (String × DataW Unit) := [("skipgraph/skipgraphworld.letters", Rows.laid_skipgraph_skipgraphworld_letters)]

theorem lit_one {a b : List UInt8} (h : some (DataW.lit (H := Unit) (.string a)) = some (DataW.lit (.string b))) : a = b := by simpa using h

/-- The listed variable holds six strings of one byte. -/
theorem lets_of_laid {W : World} (h : laidMetH Tryz.prog laidL W) : Lets W ∧ 0 < W.heap.size := by
  rw [MakeChecks.laidMetH_plain _ _ _ (by kernel_rfl)] at h
  obtain ⟨ps, ⟨g0, t0, cs0, f0, p0, q0, hg0, ht0, hv0, hd0, _, _⟩, _, _⟩ := h
  obtain rfl := Option.some.inj (gLet.symm.trans hg0)
  obtain rfl := Option.some.inj (tLet.symm.trans ht0)
  obtain ⟨xs, m1, rfl, hx1, hlen, hn3, hel⟩ := DataW.trod_array Tryz.underlying98 hd0
  simp only [Prod.mk.injEq] at hx1
  have key : ∀ i, i < 6 → ∃ s : ByteArray, s.size = 1 ∧ W.cell? ⟨0, i, none⟩ = some (.string s) := fun i hi => by
    have he := hel i hi
    have hxi : xs[i]? = some (xs[i]'(by omega)) := List.getElem?_eq_getElem (by omega)
    rw [hxi, cStr] at he
    obtain ⟨s, e1, e2, _⟩ := DataW.trod_string Tryz.underlying9 he
    refine ⟨s, ?_, ?_⟩
    · have e3 : (xs.map (·.1))[i]? = some (.lit (.string s.data.toList)) := by rw [List.getElem?_map, hxi, e2]; rfl
      have e4 : xs.map (·.1) = [.lit (.string [97]), .lit (.string [98]), .lit (.string [99]), .lit (.string [0]), .lit (.string [255]), .lit (.string [109])] := by
        have := hx1.1
        unfold Rows.laid_skipgraph_skipgraphworld_letters at this
        injection this with this
        exact this.symm
      rw [e4] at e3
      have : s.data.toList.length = 1 := by
        have hi6 : i = 0 ∨ i = 1 ∨ i = 2 ∨ i = 3 ∨ i = 4 ∨ i = 5 := by omega
        have e5 : ∃ x : UInt8, s.data.toList = [x] := by
          rcases hi6 with rfl | rfl | rfl | rfl | rfl | rfl <;> exact ⟨_, (lit_one e3).symm⟩
        obtain ⟨x, e5⟩ := e5
        rw [e5]; rfl
      exact this
    · have hcell := World.var?_cell hg0 hv0 i
      rw [hcell]
      have hl1 : cs0[i]? = some (.string s) := by
        have : (cs0.toList.drop (i * 1)).take 1 = [.string s] := e1
        rw [Nat.mul_one] at this
        have h2 := congrArg (·[0]?) this
        simpa [List.getElem?_take, List.getElem?_drop] using h2
      exact hl1
  exact ⟨key, by
    obtain ⟨s, _, hc⟩ := key 0 (by omega)
    have := World.block_lt_of_cell? W _ hc
    exact Nat.lt_of_le_of_lt (Nat.zero_le _) this⟩
end
end Go.Proofs.YtmhbloefmknikaaGreatDoor
