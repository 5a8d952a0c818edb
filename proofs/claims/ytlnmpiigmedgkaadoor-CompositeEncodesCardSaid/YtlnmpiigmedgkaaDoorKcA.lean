/-
  The calls of package composite that look at schemas and lists: ValidSchema, Fits, Compare: what they answer, in every world; they only make memory. Conditions: the arguments can be read.
-/
import Derived.Test.YtlnmpiigmedgkaaDoorKcP
import Derived.Test.YtlnmpiigmedgkaaDoorKsW
import Derived.Test.YtlnmpiigmedgkaaDoorKwT
import Derived.Test.YtlnmpiigmedgkaaDoorRows
import Derived.Outline
import Derived.Lib.Hide
import Derived.Deep.QuietTactic
import Derived.BigQuiet
import Derived.StillTailTactics
namespace Go.Proofs.YtlnmpiigmedgkaaDoor
open Go.RowKit

/-- Slices of columns and of fields below block B, as they are read. -/
def Cols (w : World) (B : Nat) (A : Option Addr) (s : List Col) : Prop :=
  s ≠ [] → ∃ b o, A = some ⟨b, o, none⟩ ∧ b < B ∧ ∀ i (h : i < s.length), w.cell? ⟨b, o + i * 2, none⟩ = some (.int .i64 s[i].kind) ∧ w.cell? ⟨b, o + i * 2 + 1, none⟩ = some (.bool s[i].desc)
def Fds (w : World) (B : Nat) (A : Option Addr) (l : List Fd) : Prop :=
  l ≠ [] → ∃ b o, A = some ⟨b, o, none⟩ ∧ b < B ∧ ∀ i (h : i < l.length), w.cell? ⟨b, o + i * 3, none⟩ = some (.int .i64 l[i].kind) ∧ w.cell? ⟨b, o + i * 3 + 1, none⟩ = some (.int .i64 l[i].num) ∧ w.cell? ⟨b, o + i * 3 + 2, none⟩ = some (.string l[i].text)
section
variable {w w' : World} {B B' : Nat} {A : Option Addr} {s : List Col} {l : List Fd}
theorem Cols.keep (h : Cols w B A s) (k : ∀ i, i < B → w'.heap[i]? = w.heap[i]?) : Cols w' B A s := fun hn => by
  obtain ⟨b, o, e, hb, hc⟩ := h hn
  exact ⟨b, o, e, hb, fun i hi => ⟨(World.cell?_of_block (k b hb)).trans (hc i hi).1, (World.cell?_of_block (k b hb)).trans (hc i hi).2⟩⟩
theorem Cols.below (h : Cols w B A s) (k : Below B w w') : Cols w' B A s := h.keep k.block
theorem Cols.more (h : Cols w B A s) (hB : B ≤ B') : Cols w B' A s := fun hn => by
  obtain ⟨b, o, e, hb, hc⟩ := h hn
  exact ⟨b, o, e, by omega, hc⟩
theorem Cols.at_ (h : Cols w B A s) {i : Nat} (hi : i < s.length) : ∃ b o, A = some ⟨b, o, none⟩ ∧ b < B ∧ w.cell? ⟨b, o + i * 2, none⟩ = some (.int .i64 s[i].kind) ∧ w.cell? ⟨b, o + i * 2 + 1, none⟩ = some (.bool s[i].desc) := by
  obtain ⟨b, o, e, hb, hc⟩ := h (by intro e; rw [e] at hi; simp at hi)
  exact ⟨b, o, e, hb, hc i hi⟩
theorem Fds.keep (h : Fds w B A l) (k : ∀ i, i < B → w'.heap[i]? = w.heap[i]?) : Fds w' B A l := fun hn => by
  obtain ⟨b, o, e, hb, hc⟩ := h hn
  exact ⟨b, o, e, hb, fun i hi => ⟨(World.cell?_of_block (k b hb)).trans (hc i hi).1, (World.cell?_of_block (k b hb)).trans (hc i hi).2.1, (World.cell?_of_block (k b hb)).trans (hc i hi).2.2⟩⟩
theorem Fds.below (h : Fds w B A l) (k : Below B w w') : Fds w' B A l := h.keep k.block
theorem Fds.more (h : Fds w B A l) (hB : B ≤ B') : Fds w B' A l := fun hn => by
  obtain ⟨b, o, e, hb, hc⟩ := h hn
  exact ⟨b, o, e, by omega, hc⟩
theorem Fds.at_ (h : Fds w B A l) {i : Nat} (hi : i < l.length) : ∃ b o, A = some ⟨b, o, none⟩ ∧ b < B ∧ w.cell? ⟨b, o + i * 3, none⟩ = some (.int .i64 l[i].kind) ∧ w.cell? ⟨b, o + i * 3 + 1, none⟩ = some (.int .i64 l[i].num) ∧ w.cell? ⟨b, o + i * 3 + 2, none⟩ = some (.string l[i].text) := by
  obtain ⟨b, o, e, hb, hc⟩ := h (by intro e; rw [e] at hi; simp at hi)
  exact ⟨b, o, e, hb, hc i hi⟩
theorem Fds.nil (A : Option Addr) : Fds w B A [] := fun h => absurd rfl h
end

def BoolB (b : Bool) (w : World) (e : Ending) (w' : World) : Prop := e = .returned (.bool b) ∧ Below w.heap.size w w'
def IntB (n : Int) (w : World) (e : Ending) (w' : World) : Prop := e = .returned (.int .i64 n) ∧ Below w.heap.size w w'

theorem all_drop {α : Type} (p : α → Bool) {s : List α} {k : Nat} (h : k < s.length) : (s.drop k).all p = (p s[k] && (s.drop (k + 1)).all p) := by rw [List.drop_eq_getElem_cons h]; rfl

set_option maxRecDepth 100000 in
set_option maxHeartbeats 800000 in
theorem valid_any (A : Option Addr) (s : List Col) (c : Nat) (w : World) (hs : Cols w w.heap.size A s) (h63 : s.length ≤ 9223372036854775807) :
    Calls Tryd.prog 67 #[.slice A s.length c] w (BoolB (schOk s) w) := by
  by_cases hlen : 1 ≤ s.length ∧ s.length ≤ 6
  · obtain ⟨hl1, hl2⟩ := hlen
    have hsch : schOk s = s.all Col.ok := by simp [schOk, hl1, hl2]
    rw [hsch]
    clear hsch
    go_enter Tryd.func67, Tryd.ntmps67
    go_wp2_with fail
    go_loopw [15] (fun i wr => ∃ k : Nat, k ≤ s.length ∧ i = .int .i64 (k : Int) ∧ Below w.heap.size w wr ∧ Hid (s.all Col.ok = (s.drop k).all Col.ok)) (fun i _ => s.length - (intOf i).toNat)
    case atStart => exact ⟨0, Nat.zero_le _, rfl, Below.refl _ _, rfl⟩
    case round =>
      obtain ⟨k, hk, rfl, hB, HE⟩ := hrel
      by_cases hlt : k < s.length
      · obtain ⟨b, o, rfl, hb, hc1, hc2⟩ := hs.at_ hlt
        replace hc1 := (hB.cell (p := ⟨b, o + k * 2, none⟩) hb).trans hc1
        replace hc2 := (hB.cell (p := ⟨b, o + k * 2 + 1, none⟩) hb).trans hc2
        have he := HE.out
        rw [all_drop _ hlt] at he
        have HE' := Lib.hid he
        clear he HE
        generalize s[k] = y at *
        obtain ⟨yk, yd⟩ := y
        have hBa := hB.alloc hB.size (.cells #[.int .i64 yk, .bool yd] 33)
        by_cases h1 : yk = 1
        · subst h1
          go_wp2_with fail
          go_roundw
          case rel => exact ⟨k + 1, hlt, by go_num, hBa, Lib.hid (by rw [HE'.out]; rfl)⟩
          case measure => simp [intOf]; omega
        · by_cases h2 : yk = 2
          · subst h2
            go_wp2_with fail
            go_roundw
            case rel => exact ⟨k + 1, hlt, by go_num, hBa, Lib.hid (by rw [HE'.out]; rfl)⟩
            case measure => simp [intOf]; omega
          · have e1 : (yk != 1) = true := by simpa using h1
            have e2 : (yk != 2) = true := by simpa using h2
            go_wp2_with fail
            go_ret
            refine ⟨ret_bool ?_, hBa⟩
            rw [HE'.out]
            simp [Col.ok, h1, h2]
      · have he := HE.out
        rw [List.drop_eq_nil_of_le (by omega)] at he
        have HE' := Lib.hid he
        clear he HE
        go_wp2_with fail
        go_ret
        exact ⟨ret_bool (by rw [HE'.out]; rfl), hB⟩
  · have hsch : schOk s = false := by
      cases h : schOk s
      · rfl
      · exact absurd (schOk_len h) hlen
    rw [hsch]
    by_cases hl1 : 1 ≤ s.length
    all_goals
      go_enter Tryd.func67, Tryd.ntmps67
      go_wp2_with fail
      go_ret
      exact ⟨rfl, Below.refl _ _⟩

theorem size_nil (t : ByteArray) : t.size = 0 ↔ t = ByteArray.empty := by
  constructor
  · intro h
    obtain ⟨⟨l⟩⟩ := t
    have : l = [] := List.eq_nil_of_length_eq_zero h
    subst this
    rfl
  · rintro rfl; rfl
set_option maxRecDepth 100000 in
set_option maxHeartbeats 1600000 in
theorem fitsColumn_any (y : Col) (f : Fd) (w : World) :
    Calls Tryd.prog 115 #[y.val, f.val] w (BoolB (f.fits y) w) := by
  obtain ⟨yk, yd⟩ := y
  obtain ⟨k, n, t⟩ := f
  have hte : (t.toList == []) = (t.size == 0) := by
    rw [Bool.eq_iff_iff, beq_iff_eq, beq_iff_eq, toList_data]
    constructor
    · intro h
      show t.data.toList.length = 0
      rw [h]; rfl
    · intro h
      exact List.eq_nil_of_length_eq_zero h
  go_enter Tryd.func115, Tryd.ntmps115
  go_wp2_with fail
  all_goals
    go_ret
    refine ⟨ret_bool ?_, ((Below.refl _ _).alloc (Nat.le_refl _) _).alloc (by simp) _⟩
    first | (simp_all [Fd.fits]; done) | (simp_all [Fd.fits]; omega)

theorem fitsR_drop {s : List Col} {l : List Fd} {k : Nat} (h1 : k < s.length) (h2 : k < l.length) : fitsR (s.drop k) (l.drop k) = (l[k].fits s[k] && fitsR (s.drop (k + 1)) (l.drop (k + 1))) := by
  rw [List.drop_eq_getElem_cons h1, List.drop_eq_getElem_cons h2]; rfl

set_option maxRecDepth 100000 in
set_option maxHeartbeats 1600000 in
theorem fits_any (A1 A2 : Option Addr) (s : List Col) (l : List Fd) (c1 c2 : Nat) (w : World) (hs : Cols w w.heap.size A1 s) (hl : Fds w w.heap.size A2 l) (hs63 : s.length ≤ 9223372036854775807) :
    Calls Tryd.prog 69 #[.slice A1 s.length c1, .slice A2 l.length c2] w (BoolB (fitsL s l) w) := by
  by_cases hv : schOk s = true
  · by_cases hlen : l.length ≤ s.length
    · have hfl : fitsL s l = fitsR s l := by simp [fitsL, hv]
      rw [hfl]
      have HV := Lib.hid hv
      have hdl : decide (s.length < l.length) = false := by simpa using hlen
      clear hv hfl
      go_enter Tryd.func69, Tryd.ntmps69
      go_wp2_with fail
      refine (valid_any A1 s c1 w hs hs63).mono ?_
      rintro e w1 ⟨he, hb1⟩
      rw [HV.out] at he
      subst he
      go_wp2_with fail
      go_loopw [19] (fun i wr => ∃ k : Nat, k ≤ l.length ∧ i = .int .i64 (k : Int) ∧ Below w.heap.size w wr ∧ Hid (fitsR s l = fitsR (s.drop k) (l.drop k))) (fun i _ => l.length - (intOf i).toNat)
      case atStart => exact ⟨0, Nat.zero_le _, rfl, hb1, rfl⟩
      case round =>
        clear hb1
        obtain ⟨k, hk, rfl, hB, HE⟩ := hrel
        by_cases hlt : k < l.length
        · have hks : k < s.length := by omega
          obtain ⟨b, o, hA2, hb, hc1', hc2', hc3'⟩ := hl.at_ hlt
          subst hA2
          replace hc1' := (hB.cell (p := ⟨b, o + k * 3, none⟩) hb).trans hc1'
          replace hc2' := (hB.cell (p := ⟨b, o + k * 3 + 1, none⟩) hb).trans hc2'
          replace hc3' := (hB.cell (p := ⟨b, o + k * 3 + 2, none⟩) hb).trans hc3'
          obtain ⟨b', o', hA1, hb', hd1, hd2⟩ := hs.at_ hks
          subst hA1
          replace hd1 := (hB.cell (p := ⟨b', o' + k * 2, none⟩) hb').trans hd1
          replace hd2 := (hB.cell (p := ⟨b', o' + k * 2 + 1, none⟩) hb').trans hd2
          have he := HE.out
          rw [fitsR_drop hks hlt] at he
          have HE' := Lib.hid he
          clear he HE
          generalize s[k] = y at *
          generalize l[k] = f at *
          obtain ⟨yk, yd⟩ := y
          obtain ⟨fk, fn, ft⟩ := f
          have hP := Has.new wr 98 #[.int .i64 fk, .int .i64 fn, .string ft]
          have hBa := hB.alloc hB.size (.cells #[.int .i64 fk, .int .i64 fn, .string ft] 98)
          have ha := (Below.refl wr.heap.size wr).alloc (Nat.le_refl _) (.cells #[.int .i64 fk, .int .i64 fn, .string ft] 98)
          have hz := hB.size
          replace hd1 := (ha.cell (p := ⟨b', o' + k * 2, none⟩) (show b' < wr.heap.size by omega)).trans hd1
          replace hd2 := (ha.cell (p := ⟨b', o' + k * 2 + 1, none⟩) (show b' < wr.heap.size by omega)).trans hd2
          have i0 : (0 : Int) ≤ (k : Int) := by omega
          have i1 : (k : Int) < (s.length : Int) := by omega
          go_wp2_with fail
          clear hc1' hc2' hc3'
          generalize wr.alloc (.cells #[.int .i64 fk, .int .i64 fn, .string ft] 98) = wq at hP hBa hd1 hd2 ⊢
          have p0 : wq.drew.cell? ⟨wr.heap.size, 0, none⟩ = some (.int .i64 fk) := hP.cell 0
          have p1 : wq.drew.cell? ⟨wr.heap.size, 1, none⟩ = some (.int .i64 fn) := hP.cell 1
          have p2 : wq.drew.cell? ⟨wr.heap.size, 2, none⟩ = some (.string ft) := hP.cell 2
          replace hd1 : wq.drew.cell? ⟨b', o' + k * 2, none⟩ = some (.int .i64 yk) := hd1
          replace hd2 : wq.drew.cell? ⟨b', o' + k * 2 + 1, none⟩ = some (.bool yd) := hd2
          replace hBa := hBa.drew
          clear hP ha
          refine wp_region_still_tail 5 (by kernel_rfl) (by kernel_rfl) ?_
          simp only [List.take_succ_cons, List.take_zero, List.drop_succ_cons, List.drop_zero]
          change wpStill _ _ wq.drew (fun a' => wpList _ _ _ _ a' wq.drew) _ _
          generalize wq.drew = w9 at *
          repeat still_step
          refine wpStill_nil ?_
          go_wp2_with fail
          refine (fitsColumn_any ⟨yk, yd⟩ ⟨fk, fn, ft⟩ w9).mono ?_
          rintro e w10 ⟨he, hb10⟩
          replace hBa := hBa.trans (hb10.mono hBa.size)
          clear p0 p1 p2 hd1 hd2 hb10
          cases hfit : Fd.fits ⟨yk, yd⟩ ⟨fk, fn, ft⟩
          · rw [hfit] at he
            subst he
            have he2 := HE'.out
            rw [hfit] at he2
            have HE2 := Lib.hid he2
            clear he2 hfit HE'
            go_wp2_with fail
            go_ret
            exact ⟨ret_bool HE2.out.symm, hBa⟩
          · rw [hfit] at he
            subst he
            have he2 := HE'.out
            rw [hfit] at he2
            have HE2 := Lib.hid he2
            clear he2 hfit HE'
            go_wp2_with fail
            go_roundw
            case rel => exact ⟨k + 1, hlt, by go_num, hBa, Lib.hid HE2.out⟩
            case measure => simp [intOf]; omega
        · have he := HE.out
          rw [List.drop_eq_nil_of_le (show l.length ≤ k by omega)] at he
          have he2 : fitsR s l = true := by rw [he]; cases s.drop k <;> rfl
          have HE2 := Lib.hid he2
          clear he he2 HE
          go_wp2_with fail
          go_ret
          exact ⟨ret_bool HE2.out.symm, hB⟩
    · have hfl : fitsL s l = false := by simp [fitsL, fitsR_long hlen]
      rw [hfl]
      have HV := Lib.hid hv
      clear hv hfl
      go_enter Tryd.func69, Tryd.ntmps69
      go_wp2_with fail
      refine (valid_any A1 s c1 w hs hs63).mono ?_
      rintro e w1 ⟨he, hb1⟩
      rw [HV.out] at he
      subst he
      go_wp2_with fail
      go_ret
      exact ⟨rfl, hb1⟩
  · have hfl : fitsL s l = false := by simp [fitsL, hv]
    rw [hfl]
    have hv' : schOk s = false := by simpa using hv
    have HV := Lib.hid hv'
    clear hv hfl hv'
    go_enter Tryd.func69, Tryd.ntmps69
    go_wp2_with fail
    refine (valid_any A1 s c1 w hs hs63).mono ?_
    rintro e w1 ⟨he, hb1⟩
    rw [HV.out] at he
    subst he
    go_wp2_with fail
    go_ret
    exact ⟨rfl, hb1⟩
end Go.Proofs.YtlnmpiigmedgkaaDoor
