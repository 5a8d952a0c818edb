/-
  Left and Keys of the tape. Condition: the block is a tape, the letters are there.
-/
import Derived.Test.YtmhbloefmknikaaGreatDoorKzW
import Derived.Test.YtmhbloefmknikaaGreatDoorLwG
import Derived.Test.YtmhbloefmknikaaGreatDoorLwQ
namespace Go.Proofs.YtmhbloefmknikaaGreatDoor
open Go.RowKit Go.Maps
namespace Lk
theorem tover {a b c : World} {g : Nat} (h : TStep a g b) (hg : g < a.heap.size) (k : Below a.heap.size b c) : TStep a g c := by
  obtain ⟨A, n, cc, q, h1, h2, hn, hb⟩ := h.1
  refine ⟨⟨A, n, cc, q, h1, h2, hn.keep (fun i hi => k.block i (by omega)), (k.block _ hg).trans hb⟩, ?_⟩
  exact ⟨k.os.trans h.2.os, k.tape.trans h.2.tape, k.output.trans h.2.output, Nat.le_trans h.2.size k.size, fun i hi hk => (k.block i hi).trans (h.2.block i hi hk)⟩
set_option maxRecDepth 100000 in
set_option maxHeartbeats 800000 in
theorem left_any (g : Nat) (w : World) (ht : Tape w g) :
    Calls Tryz.prog 10 #[.pointer (some ⟨g, 0, none⟩)] w (BoolP g w) := by
  have hst := TStep.refl ht
  obtain ⟨A, n, c, p, h1, h2, hn, hb⟩ := ht
  have c0 : w.cell? ⟨g, 0, none⟩ = some (.slice A n c) := cell_of_row w g 0 _ _ _ hb
  have c1 : w.cell? ⟨g, 1, none⟩ = some (.int .i64 (p : Int)) := cell_of_row w g 1 _ _ _ hb
  clear hb hn
  go_enter Tryz.func10, Tryz.ntmps10
  go_wp2_with fail
  go_quiet (fail)
  go_wp2_with fail
  go_ret
  exact boolP_mk (hst.drewN _)
/-- Keys that are different, and whether each one is in. -/
def KeysP (g : Nat) (w : World) (e : Ending) (w' : World) : Prop := ∃ (v1 v2 : Value) (ks : List ByteArray) (is : List Bool), e = .returned (.tuple #[v1, v2]) ∧ is.length = ks.length ∧ ks.length ≤ 6 ∧ ks.Nodup ∧ (∀ k ∈ ks, vk k = true) ∧ OwnR trow 1 9 w' w.heap.size v1 ks ∧ OwnR brow 1 4 w' w.heap.size v2 is ∧ (∀ j, v1.ownBlock = some j → v2.ownBlock ≠ some j) ∧ TStep w g w'
theorem dis_of {u v : Value} (h : ∀ j, u.ownBlock = some j → v.ownBlock ≠ some j) : v.ownBlock = none ∨ v.ownBlock ≠ u.ownBlock := by
  cases hv : v.ownBlock with
  | none => exact .inl rfl
  | some j => exact .inr (fun e => h j e.symm hv)
theorem dis_l {u v u' : Value} {N : Nat} (h : ∀ j, u.ownBlock = some j → v.ownBlock ≠ some j) (ha : u'.ownBlock = u.ownBlock ∨ ∃ q, N ≤ q ∧ u'.ownBlock = some q) (hv : ∀ j, v.ownBlock = some j → j < N) : ∀ j, u'.ownBlock = some j → v.ownBlock ≠ some j := fun j hj e => by
  rcases ha with q | ⟨q, h1, h2⟩
  · exact h j (by rw [← q]; exact hj) e
  · rw [h2] at hj
    have := hv j e
    have := Option.some.inj hj
    omega
theorem dis_r {u v v' : Value} {N : Nat} (h : ∀ j, u.ownBlock = some j → v.ownBlock ≠ some j) (ha : v'.ownBlock = v.ownBlock ∨ ∃ q, N ≤ q ∧ v'.ownBlock = some q) (hu : ∀ j, u.ownBlock = some j → j < N) : ∀ j, u.ownBlock = some j → v'.ownBlock ≠ some j := fun j hj e => by
  rcases ha with q | ⟨q, h1, h2⟩
  · exact h j hj (by rw [← q]; exact e)
  · rw [h2] at e
    have := hu j hj
    have := Option.some.inj e
    omega
def frs (ks : List ByteArray) (key : ByteArray) (j : Nat) : Bool := (ks.take j).all (fun x => !(x.toList == key.toList))
theorem frs_step (ks : List ByteArray) (key : ByteArray) {j : Nat} (hj : j < ks.length) : frs ks key (j + 1) = (frs ks key j && !(ks[j].toList == key.toList)) := by
  unfold frs
  rw [List.take_succ_eq_append_getElem hj, List.all_append]
  simp only [List.all_cons, List.all_nil, Bool.and_true]
theorem frs_new {ks : List ByteArray} {key : ByteArray} (h : frs ks key ks.length = true) : key ∉ ks := by
  unfold frs at h
  rw [List.take_length, List.all_eq_true] at h
  intro q
  have := h key q
  simp at this
set_option maxRecDepth 100000 in
set_option maxHeartbeats 6400000 in
theorem keys_any (g : Nat) (w : World) (ht : Tape w g) (hl : Lets w) (hne : 0 ≠ g) (hg : g < w.heap.size) :
    Calls Tryz.prog 45 #[.pointer (some ⟨g, 0, none⟩), .int .i64 6] w (KeysP g w) := by
  have HST := Lib.hid (TStep.refl ht)
  have HL := Lib.hid (fun W (q : TStep w g W) => hl.step hne q)
  clear ht hl
  go_enter Tryz.func45, Tryz.ntmps45
  go_wp2_with (go_at_call 11; refine (next_any g _ _ HST.out.1 (by omega)).mono ?_; rintro e w1 ⟨r, r0, r1, rfl, hst1⟩; have HS1 := Lib.hid (HST.out.trans hst1); clear hst1)
  go_loopw [6, 7, 8] (fun v1 v2 vr wr => ∃ (u1 u2 : Value) (ks : List ByteArray) (is : List Bool) (k : Nat), u1 = v1 ∧ u2 = v2 ∧ vr = .int .i64 (k : Int) ∧ Hid (is.length = ks.length) ∧ ks.length + k ≤ 6 ∧ Hid (ks.Nodup) ∧ Hid (∀ x ∈ ks, vk x = true) ∧ OwnR trow 1 9 wr w.heap.size u1 ks ∧ OwnR brow 1 4 wr w.heap.size u2 is ∧ Hid (∀ j, u1.ownBlock = some j → u2.ownBlock ≠ some j) ∧ TStep w g wr) (fun _ _ vr _ => (intOf vr).toNat)
  case atStart => exact ⟨_, _, [], [], r.toNat, rfl, rfl, by rw [Int.toNat_of_nonneg r0], Lib.hid rfl, by simp; omega, Lib.hid List.nodup_nil, Lib.hid (fun x h => by cases h), OwnR.nil, OwnR.nil, Lib.hid (fun j h => by cases h), HS1.out⟩
  case round =>
    clear HS1 HST r0 r1
    obtain ⟨u1, u2, ks, is, k, rfl, rfl, rfl, HLN, hk, HND, HVK, ho1, ho2, HDJ, hst⟩ := hrel
    obtain ⟨A1, n1, d1, hv1⟩ := own_sh ho1
    subst hv1
    have HO1 := Lib.hid ho1
    have HO2 := Lib.hid ho2
    have HS := Lib.hid hst
    have hsz := hst.2.size
    clear ho1 ho2 hst
    by_cases hlt : 0 < k
    · have k0 : (k : Int) > 0 := by omega
      go_wp2_with (go_at_call 87; refine (key_any g _ HS.out.1 (HL.out _ HS.out) hne).mono ?_; rintro e w1 ⟨key, hkey, rfl, hst1⟩; have HKS := Lib.hid hkey; clear hkey; have HS1 := Lib.hid (HS.out.trans hst1); have hsz1 := hst1.2.size; have HP1 := Lib.hid (HO1.out.step hg hst1); have HP2 := Lib.hid (HO2.out.step hg hst1); clear hst1)
      obtain ⟨A7, c7, hv7, _, _, hr7⟩ := HP1.out.read (fun _ => rfl)
      injection hv7 with q1 q2 q3
      subst q1
      have HK1 := Lib.hid q2.symm
      have hn1 : n1 ≤ 6 := by omega
      have HR7 := Lib.hid hr7
      clear hr7 q2 q3
      go_wp2_with fail
      go_loopw [10, 11] (fun vf vj wq => ∃ j : Nat, vf = .bool (frs ks key j) ∧ vj = .int .i64 (j : Int) ∧ j ≤ n1 ∧ w1 = wq) (fun _ vj _ => n1 - (intOf vj).toNat)
      case atStart => exact ⟨0, rfl, rfl, Nat.zero_le _, rfl⟩
      case round =>
        obtain ⟨j, rfl, rfl, hj, rfl⟩ := hrel
        by_cases hjn : j < n1
        · have j2 : j < ks.length := by rw [HK1.out]; exact hjn
          obtain ⟨b, o, e, -, -, t1⟩ := text_at HR7.out j2
          subst e
          have HNX := Lib.hid (frs_step ks key j2)
          generalize ks[j] = y at *
          have i0 : (0 : Int) ≤ (j : Int) := by omega
          have i1 : (j : Int) < (n1 : Int) := by omega
          clear j2
          cases hf : frs ks key j with
          | false =>
            have HF := Lib.hid hf
            clear hf
            rw [HF.out] at HNX
            go_wp2_with fail
            exact ⟨⟨j + 1, by rw [HNX.out]; rfl, by go_num, hjn, (by first | rfl | trivial)⟩, by simp [intOf]; omega⟩
          | true =>
            have HF := Lib.hid hf
            clear hf
            rw [HF.out] at HNX
            cases he : (y.toList == key.toList) with
            | true =>
              rw [he] at HNX
              go_wp2_with fail
              exact ⟨⟨j + 1, by rw [HNX.out]; rfl, by go_num, hjn, (by first | rfl | trivial)⟩, by simp [intOf]; omega⟩
            | false =>
              rw [he] at HNX
              go_wp2_with fail
              exact ⟨⟨j + 1, by rw [HNX.out]; rfl, by go_num, hjn, (by first | rfl | trivial)⟩, by simp [intOf]; omega⟩
        · obtain rfl : j = n1 := by omega
          have hbn := fun V : World => (Below.refl V.heap.size V)
          cases hf : frs ks key j with
          | false =>
            go_wp2_with fail
            exact ⟨⟨_, _, ks, is, k - 1, rfl, rfl, by go_num, HLN, by omega, HND, HVK, HP1.out, HP2.out, HDJ, HS1.out⟩, by simp [intOf]; omega⟩
          | true =>
            have HNW : Hid (key ∉ ks) := Lib.hid (frs_new (by rw [HK1.out]; exact hf))
            clear hbn
            obtain ⟨A2, n2, d2, hv2⟩ := own_sh HP2.out
            subst hv2
            go_wp2_with (first | (go_at_call 12; refine (bool_any g _ _ HS5.out.1 (by omega) (by omega)).mono ?_; rintro e w6 ⟨b6, rfl, hst6⟩; have HS6 := Lib.hid (HS5.out.trans hst6); have HP6 := Lib.hid (HP5.out.step hg hst6); have HQ6 := Lib.hid (HQ5.out.step hg hst6); have hsz6 := (HS6.out).2.size; clear hst6) | (at_builtin; refine wpList_pushR RowT.tx rfl (.tmp 38) (.tmp 40) rfl w.heap.size (.slice A1 j d1) ks w1 key _ rfl (by simp [Act.eval]) HP1.out (by simp [Act.eval]) (by have := HK1.out; omega) (by omega) ?_; intro v5 w5 ho5 hg5 hat5; obtain ⟨A5, n5, q5, hv5⟩ := own_sh ho5; subst hv5; have HP5 := Lib.hid ho5; have hb5 := grown_below hg5 (Nat.le_trans hsz hsz1) (fun j e => (HP1.out.lt j e).1); have HQ5 := Lib.hid (HP2.out.grown hg5 (dis_of HDJ.out)); have HS5 := Lib.hid (tover HS1.out hg hb5); have HD5 := Lib.hid (dis_l HDJ.out hat5 (fun j e => (HP2.out.lt j e).2)); clear ho5 hg5 hat5 hb5) | (at_builtin; refine wpList_pushR RowT.bo rfl (.tmp 42) (.tmp 45) rfl w.heap.size (.slice A2 n2 d2) is w6 b6 _ rfl (by simp [Act.eval]) HQ6.out (by simp [Act.eval]) (by have := HK1.out; have := HLN.out; omega) hsz6 ?_; intro v8 w8 ho8 hg8 hat8; have HQ8 := Lib.hid ho8; have hb8 := grown_below hg8 hsz6 (fun j e => (HQ6.out.lt j e).1); have HP8 := Lib.hid (HP6.out.grown hg8 (dis_of (fun j h1 h2 => HD5.out j h2 h1))); have HS8 := Lib.hid (tover HS6.out hg hb8); have HD8 := Lib.hid (dis_r HD5.out hat8 (fun j e => (HP6.out.lt j e).2)); clear ho8 hg8 hat8 hb8))
            exact ⟨⟨_, _, ks ++ [key], is ++ [b6], k - 1, rfl, rfl, by go_num, Lib.hid (by rw [List.length_append, List.length_append, HLN.out]; rfl), by rw [List.length_append]; have := HK1.out; simp; omega, Lib.hid (List.nodup_append.2 ⟨HND.out, by simp, fun a ha b hb => by rintro rfl; simp at hb; subst hb; exact HNW.out ha⟩), Lib.hid (fun x hx => by
              rcases List.mem_append.1 hx with q | q
              · exact HVK.out x q
              · simp at q
                subst q
                exact decide_eq_true HKS.out), HP8.out, HQ8.out, HD8, HS8.out⟩, by simp [intOf]; omega⟩
    · have k0 : ¬ (k : Int) > 0 := by omega
      go_wp2_with fail
      go_ret2
      exact ⟨_, _, ks, is, rfl, HLN.out, by omega, HND.out, HVK.out, HO1.out, HO2.out, HDJ.out, HS.out⟩
end Lk
end Go.Proofs.YtmhbloefmknikaaGreatDoor
