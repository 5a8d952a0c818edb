/-
  damage of chapter 2's statements: some string. Condition: the tape.
-/
import Derived.Test.YtlnmpiigmedgkaaDoorKcI
namespace Go.Proofs.YtlnmpiigmedgkaaDoor
open Go.RowKit

section
variable {P : Program}
/-- append of one byte to a slice that was made of a string. -/
theorem wpList_append_conv {ops : Array Oper} {rest : List Oper} {o : Oper} {a : Act} {Q : Exit → Act → World → Prop} {w : World} (hgd : o.guard = none) (s x : Operand)
    (ho : o.op = .call { callee := .builtin .append, args := #[s, x], argTypes := #[58, 58] })
    (G n cap X : Nat) (hs : a.eval s = .slice (some ⟨G, 0, none⟩) n cap) (hx : a.eval x = .slice (some ⟨X, 0, none⟩) 1 1) (A : Option Addr) (c : Nat) (w' : World)
    (hr : (Builtin.append_ #[58, 58] o.type #[.slice (some ⟨G, 0, none⟩) n cap, .slice (some ⟨X, 0, none⟩) 1 1]).run P w = .ok (.slice A (n + 1) c) w')
    (h : wpList P ops Q rest (a.put o.dst (.slice A (n + 1) c)) w') : wpList P ops Q (o :: rest) a w := by
  refine wpList_plain hgd fun K hK => ?_
  unfold Oper.wp execOp
  simp only [ho, resolve, invoke, builtin, Sem.run_bind, Sem.run_pure, Result.andThen_ok, List.map_toArray, List.map_cons, List.map_nil, hs, hx, hr]
  exact hK _ _ h
end
theorem run_strN {P : Program} (w : World) (B : Nat) (A : Option Addr) (m : List UInt8) (n : Nat) (hn : m.length = n) (c : Nat) (hm : Bys w B A m) (src dst : TypeId) (hs : P.underlying src = some (.slice 5)) (he : P.underlying 5 = some (.int .u8)) (hd : P.underlying dst = some .string) :
    (convert src dst (.slice A n c)).run P w = .ok (.string ⟨m.toArray⟩) w := by
  subst hn
  exact run_str w B A m c hm src dst hs he hd
/-- What damage gives. -/
def StrP (g : Nat) (w : World) (e : Ending) (w' : World) : Prop := ∃ s : ByteArray, e = .returned (.string s) ∧ TStep w g w'
theorem strP_mk {g : Nat} {w w' : World} {s : ByteArray} (h : TStep w g w') : StrP g w (.returned (.string s)) w' := ⟨s, rfl, h⟩
theorem conv_byte (w1 : World) (v : Int) (h0 : 0 ≤ v) (h1 : v < 256) : Bys (w1.alloc (.cells #[.int .u8 v] 5)) (w1.heap.size + 1) (some ⟨w1.heap.size, 0, none⟩) [UInt8.ofNat v.toNat] := fun _ => by
  refine ⟨_, 0, rfl, by omega, fun i hi => ?_⟩
  have : i = 0 := by simp at hi; omega
  subst this
  rw [(Has.new w1 5 #[.int .u8 v]).cell]
  show some (Value.int .u8 v) = some (.int .u8 ((UInt8.ofNat v.toNat).toNat : Int))
  have : ((UInt8.ofNat v.toNat).toNat : Int) = v := by simp; omega
  rw [this]

set_option maxRecDepth 100000 in
set_option maxHeartbeats 3200000 in
theorem damage_any (s : ByteArray) (g : Nat) (w : World) (ht : Tape w g) (hs : s.size ≤ 1000000) :
    Calls Tryd.prog 24 #[.pointer (some ⟨g, 0, none⟩), .string s] w (StrP g w) := by
  have hg := ht.lt
  obtain ⟨cap, w1, hconv, hge, hb1, hlt1, hcell, hsome, hfz⟩ := conv_d w s
  have s1 : TStep w g w1 := (TStep.refl ht).below hb1
  generalize hG : w.heap.size = G at *
  have hdl : s.data.toList.length = s.size := by simp
  by_cases h0 : s.size = 0
  · have hz : ((s.size : Int) == 0) = true := by simp [h0]
    clear hcell hsome hfz hdl h0
    go_enter Tryd.func24, Tryd.ntmps24
    go_wp2_with fail
    refine (next_any g _ _ s1.1 (by omega)).mono ?_
    rintro e w2 ⟨r, r0, r1, rfl, hst⟩
    have s2 := s1.trans hst
    have r2 : r < 256 := by omega
    have hcv := run_strN (P := Tryd.prog) _ _ _ _ 1 rfl 1 (conv_byte w2 r r0 r2) 58 9 Tryd.underlying58 Tryd.underlying5 Tryd.underlying9
    have s3 := s2.alloc (.cells #[.int .u8 r] 5)
    clear hconv
    go_wp2_with fail
    go_ret
    exact strP_mk s3
  · have hz : ((s.size : Int) == 0) = false := by rw [beq_eq_false_iff_ne]; omega
    have hp : 0 < s.size := by omega
    clear h0
    generalize hl : s.data.toList = l at *
    generalize hn : s.size = n at *
    have HL := Lib.hid hdl
    have HG := Lib.hid hG
    clear hdl hl hn hG
    go_enter Tryd.func24, Tryd.ntmps24
    go_wp2_with fail
    refine (next_any g _ _ s1.1 (by omega)).mono ?_
    rintro e w2 ⟨r, r0, r1, rfl, hst⟩
    have s2 := s1.trans hst
    have hkc := hst.keeps.1
    have hkf := hst.keeps.2.1
    have hB2 : ∀ W, TStep w2 g W → Bys W (G + 1) (some ⟨G, 0, none⟩) l := fun W k _ => ⟨G, 0, rfl, by omega, fun j hj => by
      rw [Nat.zero_add, k.keeps.1 G j (by have := hst.2.size; omega) (by omega), hkc G j hlt1 (by omega)]
      exact hcell j hj⟩
    have hC2 : ∀ W, TStep w2 g W → (∀ j (hj : j < l.length), W.cell? ⟨G, j, none⟩ = some (.int .u8 (l[j].toNat : Int))) ∧ (∀ j, j < cap → (W.cell? ⟨G, j, none⟩).isSome = true) ∧ (∀ j, j < cap → W.frozen? ⟨G, j, none⟩ = false) ∧ G < W.heap.size := fun W k => ⟨fun j hj => by
      rw [k.keeps.1 G j (by have := hst.2.size; omega) (by omega), hkc G j hlt1 (by omega)]
      exact hcell j hj, fun j hj => by
      rw [k.keeps.1 G j (by have := hst.2.size; omega) (by omega), hkc G j hlt1 (by omega)]
      exact hsome j hj, fun j hj => by
      rw [k.keeps.2.1 G j (by have := hst.2.size; omega) (by omega), hkf G j hlt1 (by omega)]
      exact hfz j hj, by have := k.2.size; have := hst.2.size; omega⟩
    have HB2 := Lib.hid hB2
    have HC2 := Lib.hid hC2
    clear hB2 hC2 hkc hkf hcell hsome hfz hconv hst
    go_wp2_with fail
    · refine (next_any g _ _ s2.1 (by omega)).mono ?_
      rintro e w3 ⟨q, q0, q1, rfl, hst⟩
      obtain ⟨k, rfl⟩ := Int.eq_ofNat_of_zero_le q0
      have s3 := s2.trans hst
      have hk : k ≤ n := by omega
      have hkc2 : k ≤ cap := by omega
      have hb := (HB2.out w3 hst).take k
      have hcv := run_strN (P := Tryd.prog) w3 _ _ _ k (by have := HL.out; rw [List.length_take]; omega) cap hb 58 9 Tryd.underlying58 Tryd.underlying5 Tryd.underlying9
      clear hb hst HB2 HC2
      go_wp2_with fail
      go_ret
      exact strP_mk s3
    · refine (next_any g _ _ s2.1 (by omega)).mono ?_
      rintro e w3 ⟨v, v0, v1, rfl, hst⟩
      have v2 : v < 256 := by omega
      have s3 := s2.trans hst
      have h3 := s3.2.size
      have hG3 := (HC2.out w3 hst).2.2.2
      obtain ⟨k1, k2, k3, k4⟩ := HC2.out _ (hst.alloc (.cells #[.int .u8 v] 5))
      have s4 := s3.alloc (.cells #[.int .u8 v] 5)
      have hx : (w3.alloc (.cells #[.int .u8 v] 5)).cell? ⟨w3.heap.size, 0, none⟩ = some (.int .u8 ((UInt8.ofNat v.toNat).toNat : Int)) := by
        rw [(Has.new w3 5 #[.int .u8 v]).cell]
        show some (Value.int .u8 v) = _
        have : ((UInt8.ofNat v.toNat).toNat : Int) = v := by simp; omega
        rw [this]
      obtain ⟨A5, c5, w5, hr, hb5, hbl⟩ := run_append_conv (w3.alloc (.cells #[.int .u8 v] 5)) G n cap l HL.out w3.heap.size (UInt8.ofNat v.toNat) 58 k1 k2 k3 k4 hx hge (by omega)
      have s5 : TStep w g w5 := s4.over (by have := HG.out; omega) (by rw [HG.out]; exact hbl)
      have hcv := run_strN (P := Tryd.prog) w5 _ _ _ (n + 1) (by have := HL.out; rw [List.length_append]; simp; omega) c5 hb5 58 9 Tryd.underlying58 Tryd.underlying5 Tryd.underlying9
      clear hb5 hst HB2 HC2 k1 k2 k3 k4 hx s4 hbl
      go_wp2_with (at_builtin; refine wpList_append_conv rfl _ _ rfl G n cap w3.heap.size rfl rfl A5 c5 w5 hr ?_)
      go_ret
      exact strP_mk s5
    · refine (next_any g _ _ s2.1 (by omega)).mono ?_
      rintro e w3 ⟨q, q0, q1, rfl, hst⟩
      obtain ⟨k, rfl⟩ := Int.eq_ofNat_of_zero_le q0
      have hk : k < n := by omega
      go_wp2_with fail
      refine (next_any g _ _ hst.1 (by omega)).mono ?_
      rintro e w4 ⟨v, v0, v1, rfl, hst4⟩
      have v2 : v < 256 := by omega
      have s4 := hst.trans hst4
      have z4 := s4.2.size
      have z2 := s2.2.size
      have hgz : g < w4.heap.size := by have := HG.out; omega
      have sN := s4.alloc (.cells #[.int .i64 0, .int .i64 1, .int .i64 2, .int .i64 3, .int .i64 255, .int .i64 254, .int .i64 v] 3)
      have hV := Has.new w4 3 #[.int .i64 0, .int .i64 1, .int .i64 2, .int .i64 3, .int .i64 255, .int .i64 254, .int .i64 v]
      have hpk := Lib.hid (pick_any g w4.heap.size 7 [0, 1, 2, 3, 255, 254, v] _ sN.1 (by simp) (by simp) (by simp) (by omega) (fun i hi => by
        rw [hV.cell]
        have h5 : i = 0 ∨ i = 1 ∨ i = 2 ∨ i = 3 ∨ i = 4 ∨ i = 5 ∨ i = 6 := by simp at hi; omega
        rcases h5 with rfl | rfl | rfl | rfl | rfl | rfl | rfl <;> rfl))
      clear hV hst hst4
      go_wp2_with fail
      refine (hpk.out).mono ?_
      rintro e w5 ⟨u, hu, rfl, hst5⟩
      have hu2 : 0 ≤ u ∧ u < 256 := by simp at hu; omega
      obtain ⟨u0, u1⟩ := hu2
      have s5 := sN.trans hst5
      obtain ⟨k1, k2, k3, k4⟩ := HC2.out _ s5
      have hf := k3 k (by omega)
      have hcs : w5.cell? ⟨G, k, none⟩ = some (.int .u8 (l[k]'(by rw [HL.out]; exact hk)).toNat) := k1 k (by rw [HL.out]; exact hk)
      have hbS : Bys (w5.setCell ⟨G, k, none⟩ (.int .u8 u)) (G + 1) (some ⟨G, 0, none⟩) (l.set k (UInt8.ofNat u.toNat)) := fun _ => ⟨G, 0, rfl, by omega, fun j hj => by
        rw [Nat.zero_add]
        by_cases hjk : j = k
        · subst hjk
          rw [World.cell?_setCell_same w5 _ _ hcs]
          simp
          omega
        · rw [World.cell?_setCell_other w5 _ _ _ (fun e => by injection e with e1 e2; omega), k1 j (by simpa using hj)]
          simp [Ne.symm hjk]⟩
      have hcv := run_strN (P := Tryd.prog) _ _ _ _ n (by have := HL.out; rw [List.length_set]; omega) cap hbS 58 9 Tryd.underlying58 Tryd.underlying5 Tryd.underlying9
      have s6 : TStep w g (w5.setCell ⟨G, k, none⟩ (.int .u8 u)) := (s2.trans s5).set (p := ⟨G, k, none⟩) (by have := HG.out; show w.heap.size ≤ G; omega) (by have := HG.out; omega) _
      generalize l[k]'(by rw [HL.out]; exact hk) = lk at hcs
      clear hpk hu hbS k1 k2 k3 HB2 HC2 sN
      go_wp2_with fail
      go_ret
      exact strP_mk s6
end Go.Proofs.YtlnmpiigmedgkaaDoor
