/-
  The walk of WireNumbers: from whatever arguments it answers true and only makes memory. Conditions: the arguments can be read.
-/
import Derived.Test.YtfencagmkhoibaaKbS
import Derived.Test.YtfencagmkhoibaaKbE
import Derived.Test.YtfencagmkhoibaaKwQ
import Derived.Test.YtfencagmkhoibaaWnb
import Derived.ArgAppend
namespace Go.Proofs.Ytfencagmkhoibaa
open Go.RowKit

theorem Bys.set {w : World} {B b o : Nat} {l : List UInt8} (h : Bys w B (some ⟨b, o, none⟩) l) {i : Nat} (hi : i < l.length) {y : Int} (h0 : 0 ≤ y) (h1 : y < 256) : Bys (w.setCell ⟨b, o + i, none⟩ (.int .u8 y)) B (some ⟨b, o, none⟩) (l.set i (UInt8.ofNat y.toNat)) := fun _ => by
  obtain ⟨b', o', e, hb, hc⟩ := h (by intro e; rw [e] at hi; simp at hi)
  injection e with e
  injection e with e1 e2
  subst e1 e2
  refine ⟨b, o, rfl, hb, fun j hj => ?_⟩
  have hj' : j < l.length := by rw [List.length_set] at hj; exact hj
  by_cases hji : j = i
  · subst hji
    rw [World.cell?_setCell_same _ _ _ (hc j hj')]
    have e : (l.set j (UInt8.ofNat y.toNat))[j] = UInt8.ofNat y.toNat := by simp
    rw [e, toNat_ofNat8 (by omega), Int.toNat_of_nonneg h0]
  · rw [World.cell?_setCell_other _ _ _ _ (fun e => by injection e with _ e; omega), hc j hj']
    rw [List.getElem_set_ne (by omega)]

theorem Bys.step2 {w w' : World} {B g : Nat} {A : Option Addr} {l : List UInt8} (h : Bys w B A l) (hA : ∀ b o, A = some ⟨b, o, none⟩ → b ≠ g) (hB : B ≤ w.heap.size) (k : TStep w g w') : Bys w' B A l := fun hn => by
  obtain ⟨b, o, e, hb, hc⟩ := h hn
  exact ⟨b, o, e, hb, fun i hi => (World.cell?_of_block (k.2.block b (by omega) (fun e2 => hA b o e (Option.some.inj e2)))).trans (hc i hi)⟩

/-- A row of the call's own, named. -/
theorem newB_F {l : List UInt8} {w : World} {e : Ending} {w' : World} (h0 : 0 < l.length) (h : NewB l w e w') : ∃ (G N c : Nat), e = .returned (.slice (some ⟨G, 0, none⟩) N c) ∧ Hid (l.length = N) ∧ N ≤ c ∧ c ≤ maxLen ∧ w.heap.size ≤ G ∧ G < w'.heap.size ∧ Hid (Bys w' w'.heap.size (some ⟨G, 0, none⟩) l) ∧ (∀ o, w'.frozen? ⟨G, o, none⟩ = false) ∧ Below w.heap.size w w' := by
  obtain ⟨v, rfl, ho, hb⟩ := h
  obtain ⟨A, c, rfl, h1, h2, h3⟩ := ho.read
  obtain ⟨_, ⟨e, h2⟩ | ⟨g, cap, cur, e, h5, h6, h7, h8, _⟩⟩ := ho
  · omega
  · injection e with e1 _ e2
    subst e1 e2
    exact ⟨g, _, c, rfl, rfl, h1, h2, h5, Has.lt h6, h3, Has.frozen h6, hb⟩

/-- append of three bytes onto a slice that came in, cut at its length. -/
theorem run_arg3 (w : World) (A : Option Addr) (l : List UInt8) (hl : Bys w w.heap.size A l) (h5 : l.length ≤ 100000) :
    ∃ v' w', (Builtin.append_ #[23, 23] 23 #[.slice A l.length l.length, .slice (some ⟨w.heap.size, 0, none⟩) 3 3]).run Try.prog (w.alloc (.cells #[.int .u8 128, .int .u8 128, .int .u8 1] 5)) = .ok v' w' ∧ OwnB w' w.heap.size v' (l ++ [128, 128, 1]) ∧ Below w.heap.size w w' := by
  obtain ⟨i0, hi0, hz0, hz1, hz2⟩ := info_parts infoByte
  have hN := Has.new w 5 #[.int .u8 128, .int .u8 128, .int .u8 1]
  have hb := (Below.refl w.heap.size w).alloc (Nat.le_refl _) (.cells #[.int .u8 128, .int .u8 128, .int .u8 1] 5)
  have hnews : ∀ j u, (bv [128, 128, 1])[j]? = some u → (w.alloc (.cells #[.int .u8 128, .int .u8 128, .int .u8 1] 5)).cell? ((⟨w.heap.size, 0, none⟩ : Addr).add j) = some u := fun j u hj => by
    rw [add_at, Nat.zero_add, hN.cell]
    match j, hj with
    | 0, hj | 1, hj | 2, hj => exact hj
  cases A with
  | none =>
    have h0 : l = [] := by
      rcases l with _ | ⟨x, l⟩
      · rfl
      · obtain ⟨b, o, e, _⟩ := hl (by simp)
        cases e
    subst h0
    obtain ⟨v', w', hr, ho, hp⟩ := run_pushL (P := Try.prog) (w.alloc (.cells #[.int .u8 128, .int .u8 128, .int .u8 1] 5)) w.heap.size 23 23 i0 Try.underlying23 hi0 hz0 hz1 hz2 (.slice none 0 0) [] (OwnB.nil _ _) (w.heap.size + 1) (some ⟨w.heap.size, 0, none⟩) [128, 128, 1] 3
      (fun _ => ⟨w.heap.size, 0, rfl, Nat.lt_succ_self _, fun i hi => by
        have := hnews i _ (bv_get hi)
        rw [add_at] at this
        exact this⟩) (by simp) (by simp)
    exact ⟨v', w', hr, ho, hb.trans (hp.below (l := []) (OwnB.nil _ _) (by simp))⟩
  | some ad =>
    have hl' := hl.below hb
    obtain ⟨v', w', hr, ho, hg⟩ := run_append_arg_grows (P := Try.prog) (w.alloc (.cells #[.int .u8 128, .int .u8 128, .int .u8 1] 5)) 23 23 5 i0 (.int .u8 0) 1 1 Try.underlying23 hi0 hz0 hz1 hz2 rfl (by decide) ad l.length l.length (bv l) (by rw [bv_len]; omega) (hl'.news rfl) ⟨w.heap.size, 0, none⟩ 3 3 (bv [128, 128, 1]) rfl hnews (by omega) (by unfold maxLen; omega) (by omega)
    refine ⟨v', w', hr, ?_, hb.trans ((Below.refl _ _).grown hg (by simp) (fun _ h => by cases h))⟩
    have ho' : OwnB w' (w.alloc (.cells #[.int .u8 128, .int .u8 128, .int .u8 1] 5)).heap.size v' (l ++ [128, 128, 1]) := by
      unfold OwnB
      rw [bv_append, List.length_append]
      exact ho
    exact ho'.less (by simp)
theorem wpList_arg3 {ops : Array Oper} {rest : List Oper} {o : Oper} {a : Act} {Q : Exit → Act → World → Prop} {w0 : World} (hw : Region.wanted o (yielded ops a.tmps) = true) (s x : Operand) (ho : o.op = .call { callee := .builtin .append, args := #[s, x], argTypes := #[23, 23] }) (hty : o.type = 23)
    (A : Option Addr) (l : List UInt8) (hs : a.eval s = .slice A l.length l.length) (hx : a.eval x = .slice (some ⟨w0.heap.size, 0, none⟩) 3 3) (hl : Bys w0 w0.heap.size A l) (h5 : l.length ≤ 100000)
    (h : ∀ v' w', OwnB w' w0.heap.size v' (l ++ [128, 128, 1]) → Below w0.heap.size w0 w' → wpList Try.prog ops Q rest (a.put o.dst v') w') : wpList Try.prog ops Q (o :: rest) a (w0.alloc (.cells #[.int .u8 128, .int .u8 128, .int .u8 1] 5)) := by
  obtain ⟨v', w', hr, h2, h3⟩ := run_arg3 w0 A l hl h5
  refine wpList_step fun K hK => ?_
  rw [if_pos hw]
  unfold Oper.wp execOp
  simp only [ho, hty, resolve, invoke, builtin, Sem.run_bind, Sem.run_pure, Result.andThen_ok, List.map_toArray, List.map_cons, List.map_nil, hs, hx, hr]
  exact hK _ _ (h v' w' h2 h3)
theorem own_N {w : World} {base : Nat} {v : Value} {l : List UInt8} (h : OwnB w base v l) : ∃ A N c, v = .slice A N c ∧ Hid (l.length = N) ∧ N ≤ c ∧ c ≤ maxLen ∧ Hid (Bys w w.heap.size A l) := by
  obtain ⟨A, c, e, h1, h2, h3⟩ := h.read
  exact ⟨A, _, c, e, rfl, h1, h2, h3⟩

set_option maxRecDepth 100000 in
set_option maxHeartbeats 6400000 in
theorem numbers_walk (A : Option Addr) (n0 cp : Nat) (A1 : Option Addr) (l1 : List UInt8) (c1 : Nat) (m : Nat) (w : World) (hnc : n0 ≤ cp) (hc : cp ≤ maxLen) (hN : Nums w w.heap.size A n0) (hlc1 : l1.length ≤ c1) (hcm1 : c1 ≤ maxLen) (hB1 : Bys w w.heap.size A1 l1) (hm : m < 18446744073709551616) :
    Calls Try.prog 3 #[.slice A n0 cp, .slice A1 l1.length c1, .int .u64 (m : Int)] w (LawP w) := by
  have hcm1' := hcm1
  unfold maxLen at hcm1'
  have hl63 : l1.length ≤ 9223372036854775807 := by omega
  by_cases hbig : 5000 < l1.length
  · go_enter Try.func3, Try.ntmps3
    go_wp2_with fail
    refine (new_any A n0 cp _ hnc hc hN).mono ?_
    rintro e w1 ⟨g, hg1, rfl, hT, hb⟩
    go_wp2_with fail
    refine (sane_any _).mono ?_
    rintro e w2 ⟨rfl, hb2⟩
    go_wp2_with fail
    go_ret
    exact ⟨rfl, hb.trans (hb2.mono hb.size)⟩
  · go_enter Try.func3, Try.ntmps3
    go_wp2_with fail
    refine (new_any A n0 cp _ hnc hc hN).mono ?_
    rintro e w1 ⟨g, hg1, rfl, hT, hb⟩
    have hA : At w [] g w1 := ⟨(Inv.nil w).below hb, hT⟩
    clear hb hT hN hnc hc
    go_wp2_with fail
    go_loopw [8] (fun i wr => ∃ k : Nat, k ≤ 5 ∧ i = .int .i64 k ∧ At w [] g wr) (fun i _ => 5 - (intOf i).toNat)
    case atStart => exact ⟨0, by omega, rfl, hA⟩
    case round =>
      clear hA
      obtain ⟨k, hk, rfl, hA⟩ := hrel
      by_cases hlt : k < 5
      · go_wp2_with fail
        refine (edges_any g _ hA.2).mono ?_
        rintro e w2 ⟨n, hn, rfl, hst⟩
        replace hA := hA.step hst hg1 (fun _ h => by cases h)
        clear hst
        go_wp2_with fail
        refine (appendUint_ref none [] 0 n _ (Bys.nil _) (by simp) hn).mono ?_
        intro e w3 hp
        have hz2 := hA.2.lt
        have hl10 := enc_len10 hn
        have hl1' := enc_len_pos n
        obtain ⟨G, N, c, rfl, hNN, hNc, hcm, hG1, hG2, hr, hf, hb⟩ := newB_F (by simp; omega) hp
        have hN1 : 1 ≤ N ∧ N ≤ 10 := by have := hNN.out; simp at this; omega
        replace hA := hA.below hb
        generalize [] ++ encU n = l at hNN hr
        clear hp hb hl10 hl1'
        go_wp2_with fail
        refine (bool_any g _ _ hA.2 (by omega) (by omega)).mono ?_
        rintro e w4 ⟨q, rfl, hst⟩
        have hGg : G ≠ g := by omega
        have hAG : ∀ b o, (some ⟨G, 0, none⟩ : Option Addr) = some ⟨b, o, none⟩ → b ≠ g := fun b o e => by injection e with e; injection e with e1; omega
        have hr4 := Lib.hid ((hr.out.step2 hAG (Nat.le_refl _) hst).more hst.2.size)
        have hf4 : ∀ o, w4.frozen? ⟨G, o, none⟩ = false := fun o => (World.frozen?_of_block (hst.2.block G hG2 (fun e => hGg (Option.some.inj e)))).trans (hf o)
        have hG4 : G < w4.heap.size := Nat.lt_of_lt_of_le hG2 hst.2.size
        replace hA := hA.step hst hg1 (fun _ h => by cases h)
        clear hst hr hf hG2
        have hgG : g < G := by omega
        have hwG : w.heap.size ≤ G := by omega
        clear hG1
        cases q
        · go_wp2_with fail
          refine (edges_any g _ hA.2).mono ?_
          rintro e w5 ⟨n2, hn2, rfl, hst⟩
          have hr5 := (hr4.out.step2 hAG (Nat.le_refl _) hst).more hst.2.size
          replace hA := hA.step hst hg1 (fun _ h => by cases h)
          clear hst
          go_wp2_with fail
          refine (numbers_any _ l N c n2 w5 hr5 hNN.out (by omega) hNc hcm hn2).mono ?_
          rintro e w6 ⟨rfl, hb6⟩
          replace hA := hA.below hb6
          clear hb6 hr5
          go_wp2_with fail
          go_roundw
          case rel => exact ⟨k + 1, hlt, by go_num, hA⟩
          case measure => simp [intOf]; omega
        · go_wp2_with fail
          refine (next_any g _ _ hA.2 (by omega)).mono ?_
          rintro e w5 ⟨t, t0, t1, rfl, hst⟩
          have hr5 := Lib.hid ((hr4.out.step2 hAG (Nat.le_refl _) hst).more hst.2.size)
          have hf5 : ∀ o, w5.frozen? ⟨G, o, none⟩ = false := fun o => (World.frozen?_of_block (hst.2.block G hG4 (fun e => hGg (Option.some.inj e)))).trans (hf4 o)
          have hG5 : G < w5.heap.size := Nat.lt_of_lt_of_le hG4 hst.2.size
          replace hA := hA.step hst hg1 (fun _ h => by cases h)
          have t2 : t < (N : Int) := by omega
          clear hst t1 hr4 hf4 hG4
          have hgz := hA.2.lt
          replace hA := hA.alloc (.cells #[.int .i64 0, .int .i64 1, .int .i64 127, .int .i64 128, .int .i64 255] 3)
          have hr6 := Lib.hid ((hr5.out.below ((Below.refl _ _).alloc (Nat.le_refl _) (.cells #[.int .i64 0, .int .i64 1, .int .i64 127, .int .i64 128, .int .i64 255] 3))).more ((Below.refl _ _).alloc (Nat.le_refl _) (.cells #[.int .i64 0, .int .i64 1, .int .i64 127, .int .i64 128, .int .i64 255] 3)).size)
          have hP := Has.new w5 3 #[.int .i64 0, .int .i64 1, .int .i64 127, .int .i64 128, .int .i64 255]
          go_wp2_with fail
          refine (pick_any g w5.heap.size 5 [0, 1, 127, 128, 255] _ hA.2 (by simp) (by simp) hP.lt (by omega) (fun i hi => ?_)).mono ?_
          · rw [hP.cell]
            match i, hi with
            | 0, _ | 1, _ | 2, _ | 3, _ | 4, _ => rfl
          rintro e w7 ⟨v, hv, rfl, hst⟩
          have hr7 := Lib.hid ((hr6.out.step2 hAG (Nat.le_refl _) hst).more hst.2.size)
          have hf7 : ∀ o, w7.frozen? ⟨G, o, none⟩ = false := fun o => (World.frozen?_of_block (hst.2.block G (by simp; omega) (fun e => hGg (Option.some.inj e)))).trans ((((Below.refl _ _).alloc (Nat.le_refl _) (.cells #[.int .i64 0, .int .i64 1, .int .i64 127, .int .i64 128, .int .i64 255] 3)).frozen (p := ⟨G, o, none⟩) hG5).trans (hf5 o))
          replace hA := hA.step hst hg1 (fun _ h => by cases h)
          have hv2 : 0 ≤ v ∧ v ≤ 255 := by simp at hv; omega
          have hti : t.toNat < l.length := by rw [hNN.out]; omega
          obtain ⟨b, o, e, hbz, hcell⟩ := hr7.out.at_ hti
          injection e with e
          injection e with e1 e2
          subst e1 e2
          rw [Nat.zero_add] at hcell
          have hset := hr7.out.set hti hv2.1 (by omega : v < 256)
          rw [Nat.zero_add] at hset
          have hA8 := hA.setC (p := ⟨G, t.toNat, none⟩) hwG hgG (fun _ h => by cases h) (.int .u8 v)
          have hlen : (l.set t.toNat (UInt8.ofNat v.toNat)).length = N := by rw [List.length_set, hNN.out]
          have HLEN := Lib.hid hlen
          have HSET := Lib.hid hset
          clear hst hv hP hr5 hr6 hf5 hset hlen hA hr7
          go_wp2_with fail
          refine (edges_any g _ hA8.2).mono ?_
          rintro e w9 ⟨n2, hn2, rfl, hst⟩
          have hr9 := (HSET.out.step2 hAG (by simp [World.setCell]) hst).more (Nat.le_trans (by simp [World.setCell]) hst.2.size)
          replace hA8 := hA8.step hst hg1 (fun _ h => by cases h)
          clear hst
          go_wp2_with fail
          refine (numbers_any _ _ N c n2 w9 hr9 HLEN.out (by omega) hNc hcm hn2).mono ?_
          rintro e w10 ⟨rfl, hb6⟩
          replace hA8 := hA8.below hb6
          clear hb6 hr9
          go_wp2_with fail
          go_roundw
          case rel => exact ⟨k + 1, hlt, by go_num, hA8⟩
          case measure => simp [intOf]; omega
      · have hB2 := (hB1.below hA.1.1).more hA.1.1.size
        have hb0 := hA.1.1
        clear hA
        go_wp2_with fail
        refine (numbers_any A1 l1 _ c1 m wr hB2 rfl (by omega) hlc1 hcm1 hm).mono ?_
        rintro e w6 ⟨rfl, hb6⟩
        have hb7 := hb0.trans (hb6.mono hb0.size)
        have hB6 := (hB1.below hb7).more hb7.size
        go_wp2_with (at_builtin; refine wpList_arg3 (by rfl) _ _ rfl rfl A1 l1 rfl rfl hB6 (by omega) ?_; intro v7 w7 ho7 hb8; obtain ⟨A7, N7, c7, rfl, hN7, hc7, hm7, hr7⟩ := own_N ho7; clear ho7)
        refine (numbers_any A7 _ N7 c7 m w7 hr7.out hN7.out (by have := hN7.out; simp at this; omega) hc7 hm7 hm).mono ?_
        rintro e w8 ⟨rfl, hb9⟩
        have hb10 := hb7.trans ((hb8.trans (hb9.mono hb8.size)).mono hb7.size)
        clear hb8 hb9
        go_wp2_with fail
        refine (sane_any _).mono ?_
        rintro e w9 ⟨rfl, hb11⟩
        go_wp2_with fail
        go_ret
        exact ⟨rfl, hb10.trans (hb11.mono hb10.size)⟩
end Go.Proofs.Ytfencagmkhoibaa
