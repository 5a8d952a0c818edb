/-
  The examples of chapter 2, as the statements call them: sane answers true, in every world; it only makes memory. No condition.
-/
import Derived.Test.YtlnmpiigmedgkaaDoorKcH
import Derived.Test.YtlnmpiigmedgkaaDoorKwL
namespace Go.Proofs.YtlnmpiigmedgkaaDoor
open Go.RowKit

theorem cols_new (w : World) (c : Col) : Cols (w.alloc (.cells #[.int .i64 c.kind, .bool c.desc] 33)) (w.heap.size + 1) (some ⟨w.heap.size, 0, none⟩) [c] := fun _ => by
  refine ⟨_, 0, rfl, Nat.lt_succ_self _, fun i hi => ?_⟩
  have hi0 : i = 0 := by simpa using hi
  subst hi0
  exact ⟨((Has.new w 33 #[.int .i64 c.kind, .bool c.desc]).cell 0), ((Has.new w 33 #[.int .i64 c.kind, .bool c.desc]).cell 1)⟩
theorem fds_new (w : World) (f : Fd) : Fds (w.alloc (.cells #[.int .i64 f.kind, .int .i64 f.num, .string f.text] 98)) (w.heap.size + 1) (some ⟨w.heap.size, 0, none⟩) [f] := fun _ => by
  refine ⟨_, 0, rfl, Nat.lt_succ_self _, fun i hi => ?_⟩
  have hi0 : i = 0 := by simpa using hi
  subst hi0
  have h := Has.new w 98 #[.int .i64 f.kind, .int .i64 f.num, .string f.text]
  exact ⟨h.cell 0, h.cell 1, h.cell 2⟩
theorem enc_a : encV [⟨2, false⟩] [⟨2, 0, ⟨#[97]⟩⟩] = (⟨#[3, 97, 0, 1]⟩, 0) := by decide +kernel
theorem enc_1 : encV [⟨1, true⟩] [⟨1, -1, ⟨#[]⟩⟩] = (⟨#[253, 128, 0, 0, 0, 0, 0, 0, 0]⟩, 0) := by decide +kernel
theorem dec_a : decV [⟨2, false⟩] ⟨#[3, 97, 0, 1]⟩ = ([⟨2, 0, ⟨#[97]⟩⟩], 0) := by
  simp [decV, schOk, Col.ok, decR, decFd, decT, ByteArray.size]

theorem wide_one {f : Fd} (h : f.wide) : ∀ i (hi : i < [f].length), [f][i].wide := fun i hi => by
  have h0 : i = 0 := by simpa using hi
  subst h0
  exact h
/-- Encode of one field under one column, both in blocks just made. -/
theorem encode_two (c : Col) (f : Fd) (w : World) (hf : f.wide) :
    Calls Tryd.prog 28 #[.slice (some ⟨w.heap.size, 0, none⟩) 1 1, .slice (some ⟨w.heap.size + 1, 0, none⟩) 1 1] ((w.alloc (.cells #[.int .i64 c.kind, .bool c.desc] 33)).alloc (.cells #[.int .i64 f.kind, .int .i64 f.num, .string f.text] 98)) fun e w' => e = .returned (.tuple #[.string (encV [c] [f]).1, .int .i64 (encV [c] [f]).2]) ∧ Below (w.heap.size + 2) ((w.alloc (.cells #[.int .i64 c.kind, .bool c.desc] 33)).alloc (.cells #[.int .i64 f.kind, .int .i64 f.num, .string f.text] 98)) w' := by
  have f1 := fds_new (w.alloc (.cells #[.int .i64 c.kind, .bool c.desc] 33)) f
  have s1 := cols_new w c
  have hz : (w.alloc (.cells #[.int .i64 c.kind, .bool c.desc] 33)).heap.size = w.heap.size + 1 := by simp
  have a2 := (Below.refl (w.heap.size + 1) (w.alloc (.cells #[.int .i64 c.kind, .bool c.desc] 33))).alloc (by omega) (.cells #[.int .i64 f.kind, .int .i64 f.num, .string f.text] 98)
  rw [hz] at f1
  have hz2 : ((w.alloc (.cells #[.int .i64 c.kind, .bool c.desc] 33)).alloc (.cells #[.int .i64 f.kind, .int .i64 f.num, .string f.text] 98)).heap.size = w.heap.size + 2 := by simp
  refine (encode_any (some ⟨w.heap.size, 0, none⟩) (some ⟨w.heap.size + 1, 0, none⟩) [c] [f] 1 1 _ ((s1.below a2).more (by omega)) (f1.more (by omega)) (by simp) (wide_one hf)).mono ?_
  rintro e w' ⟨he, hb⟩
  rw [hz2] at hb
  exact ⟨he, hb⟩

set_option maxRecDepth 100000 in
set_option maxHeartbeats 3200000 in
theorem sane_any (w : World) : Calls Tryd.prog 22 #[] w (LawP w) := by
  have a1 := (Below.refl w.heap.size w).alloc (Nat.le_refl _) (.cells #[.int .i64 2, .bool false] 33)
  have a2 := a1.alloc a1.size (.cells #[.int .i64 2, .int .i64 0, .string ⟨#[97]⟩] 98)
  have p0 : Has ((w.alloc (.cells #[.int .i64 2, .bool false] 33)).alloc (.cells #[.int .i64 2, .int .i64 0, .string ⟨#[97]⟩] 98)) w.heap.size 33 #[.int .i64 2, .bool false] := (Has.new w 33 #[.int .i64 2, .bool false]).alloc _
  go_enter Tryd.func22, Tryd.ntmps22
  go_wp2_with fail
  refine (encode_two ⟨2, false⟩ ⟨2, 0, ⟨#[97]⟩⟩ w (by simp [Fd.wide])).mono ?_
  rintro e w1 ⟨he, hb1⟩
  rw [enc_a] at he
  obtain rfl : e = .returned (.tuple #[.string ⟨#[3, 97, 0, 1]⟩, .int .i64 0]) := he
  have hB1 := a2.trans (hb1.mono (by omega))
  have p1 : Has w1 w.heap.size 33 #[.int .i64 2, .bool false] := (hb1.block w.heap.size (by omega)).trans p0
  clear a1 a2 p0 hb1
  go_wp2_with fail
  refine (encode_two ⟨1, true⟩ ⟨1, -1, ⟨#[]⟩⟩ w1 (by simp [Fd.wide])).mono ?_
  rintro e w2 ⟨he, hb2⟩
  rw [enc_1] at he
  obtain rfl : e = .returned (.tuple #[.string ⟨#[253, 128, 0, 0, 0, 0, 0, 0, 0]⟩, .int .i64 0]) := he
  have hb2' := (((Below.refl w1.heap.size w1).alloc (Nat.le_refl _) (.cells #[.int .i64 1, .bool true] 33)).alloc (by simp) (.cells #[.int .i64 1, .int .i64 (-1), .string ⟨#[]⟩] 98)).trans (hb2.mono (by omega))
  have hB2 := hB1.trans (hb2'.mono hB1.size)
  have p2 := p1.below hb2'
  have s2 : Cols w2 w2.heap.size (some ⟨w.heap.size, 0, none⟩) [⟨2, false⟩] := fun _ => ⟨_, 0, rfl, p2.lt, fun i hi => by
    have hi0 : i = 0 := by simpa using hi
    subst hi0
    exact ⟨p2.cell 0, p2.cell 1⟩⟩
  clear hB1 hb2 hb2' p1 p2
  go_wp2_with fail
  refine (decode_any (some ⟨w.heap.size, 0, none⟩) [⟨2, false⟩] 1 ⟨#[3, 97, 0, 1]⟩ w2 s2 (by simp)).mono ?_
  rintro e w3 ⟨A, c, he, hf, hb3⟩
  rw [dec_a] at he hf
  obtain rfl : e = .returned (.tuple #[.slice A 1 c, .int .i64 0]) := he
  have hB3 := hB2.trans (hb3.mono hB2.size)
  obtain ⟨b, o, rfl, hb, -, -, q2⟩ := hf.at_ (i := 0) (by simp)
  clear hf s2 hB2 hb3
  go_wp2_with fail
  go_ret
  exact ⟨rfl, hB3⟩
end Go.Proofs.YtlnmpiigmedgkaaDoor
