/-
  Check of package roster: what it answers. Condition: the nodes can be read, their words fit.
-/
import Derived.Test.YtjokbdhineilcaaGreatDoorKdK
import Derived.Test.YtjokbdhineilcaaGreatDoorLdX
import Derived.Maps.OwnSet
import Derived.Carry
namespace Go.Proofs.YtjokbdhineilcaaGreatDoor
open Go.RowKit Go.Maps

theorem lawInt : Keyed Tryz.prog 3 := int_keyed Tryz.underlying3
theorem lawStr : Keyed Tryz.prog 9 := string_keyed Tryz.underlying9
theorem zeroBool (w : World) : (zeroValue 4).run Tryz.prog w = .ok (.bool false) w := by kernel_rfl
theorem plainElem_bool_inv {H : Type} {P : Program} {e : TypeId} (he : P.underlying e = some .bool) {v : Value} {z : DataW H × List MemPlace} (h : plainElem P e v = some z) : ∃ x, v = .bool x ∧ z = (.lit (.bool x), []) := by
  unfold plainElem at h
  rw [he] at h
  cases v <;> simp at h
  exact ⟨_, rfl, h.symm⟩
/-- 'm[k]' on a map of bools that the call has made. -/
theorem wpList_lookup_own_bool {H : Type} {P : Program} (w : World) {ops : Array Oper} {rest : List Oper} {o : Oper} {a : Act} {Q : Exit → Act → World → Prop} (hg : o.guard = none) (m x : Operand) (t : TypeId) (hop : o.op = Op.lookup t m x false)
    (k e : TypeId) (K : Keyed P k) (ht : P.underlying t = some (.map k e)) (he : P.underlying e = some .bool) (hz : (zeroValue e).run P w = .ok (.bool false) w) (b n : Nat) (D : DataW H)
    (hm : a.eval m = .map (some b)) (hown : w.ownsMap P k (plainElem P e) b n D) (key : Value) (kl : Lit) (hx : a.eval x = key) (hkey : keyOf P k key = some kl)
    (hK : ∀ y : Bool, D.atKey kl (.lit (.bool false)) = .lit (.bool y) → wpList P ops Q rest (a.put o.dst (.bool y)) w) :
    wpList P ops Q (o :: rest) a w := by
  refine wpList_plain hg fun K' hK' => ?_
  obtain ⟨v, ps, hrun, hv⟩ := hown.lookup K ht hz (plainElem_bool he false) hkey
  obtain ⟨y, rfl, hy⟩ := plainElem_bool_inv he hv
  unfold Oper.wp
  simp [execOp, hop, hm, hx, hrun, Result.andThen]
  exact hK' _ _ (hK y (congrArg Prod.fst hy))
/-- The run of such a look-up, for a map that holds true at the keys of a list and nothing else. -/
theorem look_bool {H : Type} {P : Program} {w : World} {k e t : TypeId} {b n : Nat} {D : DataW H} (K : Keyed P k) (ht : P.underlying t = some (.map k e)) (he : P.underlying e = some .bool) (hz : (zeroValue e).run P w = .ok (.bool false) w) (hown : w.ownsMap P k (plainElem P e) b n D) {key : Value} {kl : Lit} (hkey : keyOf P k key = some kl) :
    ∃ y : Bool, (Instr.lookup t (.map (some b)) key false).run P w = .ok (.bool y) w ∧ D.atKey kl (.lit (.bool false)) = .lit (.bool y) := by
  obtain ⟨v, ps, hrun, hv⟩ := hown.lookup K ht hz (plainElem_bool he false) hkey
  obtain ⟨y, rfl, hy⟩ := plainElem_bool_inv he hv
  exact ⟨y, hrun, congrArg Prod.fst hy⟩
/-- A set: at each key true or nothing. -/
def SetD {H : Type} (D : DataW H) (S : Lit → Prop) : Prop := ∀ kl : Lit, WideAt.IsKeyLit kl → (D.atKey kl (.lit (.bool false)) = .lit (.bool true) ∧ S kl) ∨ (D.atKey kl (.lit (.bool false)) = .lit (.bool false) ∧ ¬ S kl)
theorem SetD.nil {H : Type} : SetD (.map [] : DataW H) (fun _ => False) := fun _ _ => .inr ⟨rfl, id⟩
theorem SetD.congr {H : Type} {D : DataW H} {S T : Lit → Prop} (h : SetD D S) (e : ∀ z, S z ↔ T z) : SetD D T := fun z hz => (h z hz).imp (fun k => ⟨k.1, (e z).1 k.2⟩) (fun k => ⟨k.1, fun q => k.2 ((e z).2 q)⟩)
theorem SetD.put {H : Type} {D : DataW H} {S : Lit → Prop} (h : SetD D S) (hm : IsMap D) {k : Lit} (hk : WideAt.IsKeyLit k) : SetD (D.put k (.lit (.bool true))) (fun z => z = k ∨ S z) := fun z hz => by
  by_cases e : z = k
  · subst e
    exact .inl ⟨atKey_put_same hm hk _ _, .inl rfl⟩
  · rw [atKey_put_other e]
    rcases h z hz with ⟨h1, h2⟩ | ⟨h1, h2⟩
    · exact .inl ⟨h1, .inr h2⟩
    · exact .inr ⟨h1, fun h3 => h3.elim e h2⟩
theorem SetD.at_ {H : Type} {D : DataW H} {S : Lit → Prop} (h : SetD D S) {k : Lit} (hk : WideAt.IsKeyLit k) {y : Bool} (e : D.atKey k (.lit (.bool false)) = .lit (.bool y)) : y = true ↔ S k := by
  rcases h k hk with ⟨h1, h2⟩ | ⟨h1, h2⟩
  · rw [h1] at e
    injection e with e
    injection e with e
    simp [← e, h2]
  · rw [h1] at e
    injection e with e
    injection e with e
    simp [← e, h2]

set_option maxRecDepth 100000 in
set_option maxHeartbeats 800000 in
theorem valid_node (i : Int) (k : ByteArray) (n : Nat) (w : World) (hx : n < 4294967296) :
    Calls Tryz.prog 55 #[.agg #[.int .i64 i, .string k, .int .u32 (n : Int)]] w fun e w' => e = .returned (.bool (Nd.ok ⟨i, k, n⟩)) ∧ Below w.heap.size w w' := by
  have hB := (Below.refl w.heap.size w).alloc (Nat.le_refl _) (.cells #[.int .i64 i, .string k, .int .u32 (n : Int)] 25)
  have hX := Has.new w 25 #[.int .i64 i, .string k, .int .u32 (n : Int)]
  have x0 := hX.cell 0
  have x1 := hX.cell 1
  have x2 := hX.cell 2
  clear hX
  have HV := Lib.hid (fun W => vk_key k W)
  have HW := Lib.hid (fun W => valid_any4 n W hx)
  have HO : Hid (Nd.ok ⟨i, k, n⟩ = (decide (1 ≤ i) && decide (i ≤ 2147483647) && vk k && decide (n < 65536))) := Lib.hid rfl
  generalize Nd.ok ⟨i, k, n⟩ = Z at *
  by_cases h1 : 1 ≤ i
  · by_cases h2 : i ≤ 2147483647
    · cases h3 : vk k
      · have HZ : Hid (Z = false) := Lib.hid (by rw [HO.out, h3]; simp)
        rw [h3] at HV
        go_enter Tryz.func55, Tryz.ntmps55
        go_wp2_with fail
        refine (HV.out _).mono ?_
        rintro e w1 ⟨rfl, rfl⟩
        go_wp2_with fail
        go_ret
        exact ⟨ret_bool HZ.out.symm, hB⟩
      · cases h4 : decide (n < 65536)
        · have HZ : Hid (Z = false) := Lib.hid (by rw [HO.out, h4]; simp)
          rw [h3] at HV
          rw [h4] at HW
          go_enter Tryz.func55, Tryz.ntmps55
          go_wp2_with fail
          refine (HV.out _).mono ?_
          rintro e w1 ⟨rfl, rfl⟩
          go_wp2_with fail
          refine (HW.out _).mono ?_
          rintro e w1 ⟨rfl, rfl⟩
          go_wp2_with fail
          go_ret
          exact ⟨ret_bool HZ.out.symm, hB⟩
        · have HZ : Hid (Z = true) := Lib.hid (by rw [HO.out, h3, h4]; simp [h1, h2])
          rw [h3] at HV
          rw [h4] at HW
          go_enter Tryz.func55, Tryz.ntmps55
          go_wp2_with fail
          refine (HV.out _).mono ?_
          rintro e w1 ⟨rfl, rfl⟩
          go_wp2_with fail
          refine (HW.out _).mono ?_
          rintro e w1 ⟨rfl, rfl⟩
          go_wp2_with fail
          go_ret
          exact ⟨ret_bool HZ.out.symm, hB⟩
    · have HZ : Hid (Z = false) := Lib.hid (by rw [HO.out]; simp [h2])
      go_enter Tryz.func55, Tryz.ntmps55
      go_wp2_with fail
      go_ret
      exact ⟨ret_bool HZ.out.symm, hB⟩
  · have HZ : Hid (Z = false) := Lib.hid (by rw [HO.out]; simp [h1])
    go_enter Tryz.func55, Tryz.ntmps55
    go_wp2_with fail
    go_ret
    exact ⟨ret_bool HZ.out.symm, hB⟩
/-- The keys of a map of ids, and of a map of keys. -/
def idsOf (l : List Nd) (z : Lit) : Prop := ∃ x ∈ l, z = .int .i64 x.id
def keysOf (l : List Nd) (z : Lit) : Prop := ∃ x ∈ l, z = .string x.key.data.toList
theorem idsOf_next {l : List Nd} {k : Nat} (h : k < l.length) (z : Lit) : (z = .int .i64 l[k].id ∨ idsOf (l.take k) z) ↔ idsOf (l.take (k + 1)) z := by
  unfold idsOf
  rw [List.take_succ_eq_append_getElem h]
  simp only [List.mem_append, List.mem_singleton]
  constructor
  · rintro (h | ⟨x, hx, e⟩)
    · exact ⟨_, .inr rfl, h⟩
    · exact ⟨x, .inl hx, e⟩
  · rintro ⟨x, hx | rfl, e⟩
    · exact .inr ⟨x, hx, e⟩
    · exact .inl e
theorem keysOf_next {l : List Nd} {k : Nat} (h : k < l.length) (z : Lit) : (z = .string l[k].key.data.toList ∨ keysOf (l.take k) z) ↔ keysOf (l.take (k + 1)) z := by
  unfold keysOf
  rw [List.take_succ_eq_append_getElem h]
  simp only [List.mem_append, List.mem_singleton]
  constructor
  · rintro (h | ⟨x, hx, e⟩)
    · exact ⟨_, .inr rfl, h⟩
    · exact ⟨x, .inl hx, e⟩
  · rintro ⟨x, hx | rfl, e⟩
    · exact .inr ⟨x, hx, e⟩
    · exact .inl e
theorem apart_seen {l : List Nd} {k : Nat} (h : k < l.length) : (idsOf (l.take k) (.int .i64 l[k].id) ∨ keysOf (l.take k) (.string l[k].key.data.toList)) → ¬ l.Pairwise Nd.apart := by
  intro hs hp
  have h2 := (apart_next h).1 (apart_take (k + 1) hp)
  rcases hs with ⟨x, hx, e⟩ | ⟨x, hx, e⟩
  · obtain ⟨j, hj, rfl⟩ := List.mem_take_iff_getElem.1 hx
    injection e with _ e
    exact (h2.2 j (by omega)).1 e.symm
  · obtain ⟨j, hj, rfl⟩ := List.mem_take_iff_getElem.1 hx
    injection e with e
    exact (h2.2 j (by omega)).2 (toList_inj (by rw [toList_data, toList_data]; exact e.symm))
theorem apart_new {l : List Nd} {k : Nat} (h : k < l.length) (hp : (l.take k).Pairwise Nd.apart) (h1 : ¬ idsOf (l.take k) (.int .i64 l[k].id)) (h2 : ¬ keysOf (l.take k) (.string l[k].key.data.toList)) : (l.take (k + 1)).Pairwise Nd.apart := by
  refine (apart_next h).2 ⟨hp, fun j hj => ⟨fun e => h1 ⟨l[j], List.mem_take_iff_getElem.2 ⟨j, by omega, rfl⟩, by rw [e]⟩, fun e => h2 ⟨l[j], List.mem_take_iff_getElem.2 ⟨j, by omega, rfl⟩, by rw [e]⟩⟩⟩

set_option maxRecDepth 100000 in
set_option maxHeartbeats 3200000 in
theorem repeats_any (A : Option Addr) (l : List Nd) (c : Nat) (w : World) (hl : Nds w w.heap.size A l) (hn : l.length ≤ 1000) (hok : l.all Nd.ok = true) :
    Calls Tryz.prog 56 #[.slice A l.length c] w fun e w' => e = .returned (.bool (!decide (l.Pairwise Nd.apart))) ∧ Below w.heap.size w w' := by
  have HOK := Lib.hid (fun (k : Nat) (h : k < l.length) => (by
    have := List.all_eq_true.1 hok _ (List.getElem_mem h)
    simp [Nd.ok, vk] at this
    omega : 1 ≤ l[k].id ∧ l[k].id ≤ 2147483647 ∧ l[k].key.size ≤ 64))
  obtain ⟨Z, hZ⟩ : ∃ Z, Z = !decide (l.Pairwise Nd.apart) := ⟨_, rfl⟩
  rw [← hZ]
  have HZ := Lib.hid hZ
  clear hZ hok
  have hmm := @run_makeMap Tryz.prog
  go_enter Tryz.func56, Tryz.ntmps56
  go_wp2_with fail
  go_loopw [11] (fun i wr => ∃ (k : Nat) (D1 D2 : DataW Unit), k ≤ l.length ∧ i = .int .i64 (k : Int) ∧ wr.ownsMap Tryz.prog 3 (plainElem Tryz.prog 4) w.heap.size k D1 ∧ wr.ownsMap Tryz.prog 9 (plainElem Tryz.prog 4) (w.heap.size + 1) k D2 ∧ Hid (SetD D1 (idsOf (l.take k))) ∧ Hid (SetD D2 (keysOf (l.take k))) ∧ Hid ((l.take k).Pairwise Nd.apart) ∧ Below w.heap.size w wr ∧ w.heap.size + 2 ≤ wr.heap.size) (fun i _ => l.length - (intOf i).toNat)
  case atStart =>
    have h2 := World.ownsMap_made (H := Unit) (w.alloc (.map #[] 0)) Tryz.prog 9 (plainElem Tryz.prog 4)
    rw [World.size_alloc] at h2
    refine ⟨0, .map [], .map [], by omega, rfl, (World.ownsMap_made _ _ _ _).alloc _, h2, Lib.hid (SetD.nil.congr fun z => by simp [idsOf]), Lib.hid (SetD.nil.congr fun z => by simp [keysOf]), Lib.hid (by simp), ((Below.refl _ _).alloc (Nat.le_refl _) _).alloc (by rw [World.size_alloc]; omega) _, by rw [World.size_alloc, World.size_alloc]; omega⟩
  case round =>
    obtain ⟨k, D1, D2, hk, rfl, hm1, hm2, HS1, HS2, HP, hB, hsz⟩ := hrel
    by_cases hlt : k < l.length
    · obtain ⟨b, o, hA2, hb, f1, f2, f3⟩ := hl.at_ hlt
      subst hA2
      obtain ⟨ok1, ok2, ok3⟩ := HOK.out k hlt
      have HI := Lib.hid (fun z => idsOf_next hlt z)
      have HK := Lib.hid (fun z => keysOf_next hlt z)
      have HAS := Lib.hid (apart_seen hlt)
      have HAN := Lib.hid (apart_new hlt HP.out)
      replace f1 := (hB.cell (p := ⟨b, o + k * 3, none⟩) hb).trans f1
      replace f2 := (hB.cell (p := ⟨b, o + k * 3 + 1, none⟩) hb).trans f2
      replace f3 := (hB.cell (p := ⟨b, o + k * 3 + 2, none⟩) hb).trans f3
      generalize l[k] = y at *
      obtain ⟨yi, yk, yw⟩ := y
      simp only at ok1 ok2 ok3
      have i0 : (0 : Int) ≤ (k : Int) := by omega
      have i1 : (k : Int) < (l.length : Int) := by omega
      have hX := Has.new wr 25 #[.int .i64 yi, .string yk, .int .u32 (yw : Int)]
      have x0 := hX.cell 0
      have x1 := hX.cell 1
      have x2 := hX.cell 2
      have hm1a := hm1.alloc (.cells #[.int .i64 yi, .string yk, .int .u32 (yw : Int)] 25)
      have hm2a := hm2.alloc (.cells #[.int .i64 yi, .string yk, .int .u32 (yw : Int)] 25)
      have hBX := hB.alloc hB.size (.cells #[.int .i64 yi, .string yk, .int .u32 (yw : Int)] 25)
      have hXs : (wr.alloc (.cells #[.int .i64 yi, .string yk, .int .u32 (yw : Int)] 25)).heap.size = wr.heap.size + 1 := by rw [World.size_alloc]
      have hk1 : keyOf Tryz.prog 3 (.int .i64 yi) = some (.int .i64 yi) := keyOf_int_mk Tryz.underlying3 (WalkArith.wf_i64 (by omega))
      have hk2 : keyOf Tryz.prog 9 (.string yk) = some (.string yk.data.toList) := WideMaps.keyOf_string_mk Tryz.underlying9 (by unfold maxLen; omega)
      obtain ⟨y1, hr1, hat1⟩ := look_bool lawInt Tryz.underlying104 Tryz.underlying4 (zeroBool _) hm1a hk1
      obtain ⟨y2, hr2, hat2⟩ := look_bool lawStr Tryz.underlying111 Tryz.underlying4 (zeroBool _) hm2a hk2
      have q1 := HS1.out.at_ (k := .int .i64 yi) trivial hat1
      have q2 := HS2.out.at_ (k := .string yk.data.toList) trivial hat2
      clear hat1 hat2 hX
      cases y1
      · cases y2
        · have HPN := Lib.hid (HAN.out (fun h => by have := q1.2 h; cases this) (fun h => by have := q2.2 h; cases this))
          clear q1 q2 HAN HAS
          go_wp2_with (first | (at_mapUpdate; refine wpList_mapUpdate_own _ rfl _ _ _ 104 rfl 3 4 lawInt Tryz.underlying104 _ w.heap.size k D1 rfl hm1a (by unfold maxLen; omega) _ _ _ rfl rfl hk1 (.lit (.bool true)) [] (plainElem_bool Tryz.underlying4 _) ?_; intro w1 hm3 hgr3; have hm4 := hm2a.kept hgr3 (fun e => (by have := Option.some.inj e; omega)); have hs3 := hgr3.size; have hB3 := hBX.grown hgr3 hBX.size (fun j e => (by have := Option.some.inj e; omega)); replace x0 := hgr3.cell x0 (fun e => (by have : wr.heap.size = w.heap.size := Option.some.inj e; omega)); replace x1 := hgr3.cell x1 (fun e => (by have : wr.heap.size = w.heap.size := Option.some.inj e; omega)); replace x2 := hgr3.cell x2 (fun e => (by have : wr.heap.size = w.heap.size := Option.some.inj e; omega)); clear hr1 hr2) | (at_mapUpdate; refine wpList_mapUpdate_own _ rfl _ _ _ 111 rfl 9 4 lawStr Tryz.underlying111 _ (w.heap.size + 1) k D2 rfl hm4 (by unfold maxLen; omega) _ _ _ rfl rfl hk2 (.lit (.bool true)) [] (plainElem_bool Tryz.underlying4 _) ?_; intro w2 hm5 hgr5; have hm6 := hm3.kept hgr5 (fun e => (by have := Option.some.inj e; omega)); have hs5 := hgr5.size; have hB5 := hB3.grown hgr5 hB3.size (fun j e => (by have := Option.some.inj e; omega))))
          exact ⟨⟨k + 1, _, _, hlt, by go_num, hm6, hm5, Lib.hid ((HS1.out.put (k := .int .i64 yi) hm1.isMap trivial).congr HI.out), Lib.hid ((HS2.out.put (k := .string yk.data.toList) hm2.isMap trivial).congr HK.out), HPN, hB5, by omega⟩, by simp [intOf]; omega⟩
        · have HF : Hid (Z = true) := Lib.hid (by rw [HZ.out]; simp [HAS.out (.inr (q2.1 rfl))])
          clear q1 q2 HAN HAS
          go_wp2_with fail
          go_ret
          exact ⟨ret_bool HF.out.symm, hBX⟩
      · have HF : Hid (Z = true) := Lib.hid (by rw [HZ.out]; simp [HAS.out (.inl (q1.1 rfl))])
        clear q1 q2 HAN HAS
        go_wp2_with fail
        go_ret
        exact ⟨ret_bool HF.out.symm, hBX⟩
    · have HF : Hid (Z = false) := Lib.hid (by
        have := HP.out
        rw [List.take_of_length_le (by omega)] at this
        rw [HZ.out]
        simp [this])
      go_wp2_with fail
      go_ret
      exact ⟨ret_bool HF.out.symm, hB⟩

set_option maxRecDepth 100000 in
set_option maxHeartbeats 3200000 in
theorem check_any (A : Option Addr) (l : List Nd) (c : Nat) (w : World) (hl : Nds w w.heap.size A l) (hwd : ∀ x ∈ l, x.word < 4294967296) :
    Calls Tryz.prog 29 #[.slice A l.length c] w fun e w' => e = .returned (.int .i64 (chkV l)) ∧ Below w.heap.size w w' := by
  by_cases h64 : 64 < l.length
  · have hr : chkV l = 3 := by simp [chkV, h64]
    have t0 : (64 : Int) < (l.length : Int) := by omega
    rw [hr]
    go_enter Tryz.func29, Tryz.ntmps29
    go_wp2_with fail
    go_ret
    exact ⟨rfl, Below.refl _ _⟩
  have HR := Lib.hid (show chkV l = if l.all Nd.ok = true then (if l.Pairwise Nd.apart then 0 else 5) else 1 by simp [chkV, h64])
  have h64' : l.length ≤ 64 := by omega
  have t0 : ¬ (64 : Int) < (l.length : Int) := by omega
  generalize chkV l = Z at *
  go_enter Tryz.func29, Tryz.ntmps29
  go_wp2_with fail
  go_loopw [10] (fun i wr => ∃ k : Nat, k ≤ l.length ∧ i = .int .i64 (k : Int) ∧ Below w.heap.size w wr ∧ Hid (l.all Nd.ok = (l.drop k).all Nd.ok)) (fun i _ => l.length - (intOf i).toNat)
  case atStart => exact ⟨0, Nat.zero_le _, rfl, Below.refl _ _, Lib.hid rfl⟩
  case round =>
    obtain ⟨k, hk, rfl, hB, HE⟩ := hrel
    by_cases hlt : k < l.length
    · obtain ⟨b, o, hA2, hb, f1, f2, f3⟩ := hl.at_ hlt
      subst hA2
      have hxw := hwd _ (List.getElem_mem hlt)
      have HD := Lib.hid (HE.out.trans (allN_drop hlt))
      replace f1 := (hB.cell (p := ⟨b, o + k * 3, none⟩) hb).trans f1
      replace f2 := (hB.cell (p := ⟨b, o + k * 3 + 1, none⟩) hb).trans f2
      replace f3 := (hB.cell (p := ⟨b, o + k * 3 + 2, none⟩) hb).trans f3
      generalize l[k] = y at *
      obtain ⟨yi, yk, yw⟩ := y
      have i0 : (0 : Int) ≤ (k : Int) := by omega
      have i1 : (k : Int) < (l.length : Int) := by omega
      have hX := Has.new wr 25 #[.int .i64 yi, .string yk, .int .u32 (yw : Int)]
      have x0 := hX.cell 0
      have x1 := hX.cell 1
      have x2 := hX.cell 2
      have hBX := hB.alloc hB.size (.cells #[.int .i64 yi, .string yk, .int .u32 (yw : Int)] 25)
      have HV := Lib.hid (fun W => valid_node yi yk yw W hxw)
      clear hX
      cases hv : Nd.ok ⟨yi, yk, yw⟩
      · have HF : Hid (Z = 1) := Lib.hid (by
          have := HD.out
          rw [hv] at this
          rw [HR.out, this]
          rfl)
        rw [hv] at HV
        clear HD HE HR
        go_wp2_with fail
        refine (HV.out _).mono ?_
        rintro e w1 ⟨rfl, hb1⟩
        go_wp2_with fail
        go_ret
        exact ⟨ret_int HF.out.symm, hBX.trans (hb1.mono hBX.size)⟩
      · have HF : Hid (l.all Nd.ok = (l.drop (k + 1)).all Nd.ok) := Lib.hid (by rw [HD.out, hv]; rfl)
        rw [hv] at HV
        clear HD HE
        go_wp2_with fail
        refine (HV.out _).mono ?_
        rintro e w1 ⟨rfl, hb1⟩
        go_wp2_with fail
        exact ⟨⟨k + 1, hlt, by go_num, hBX.trans (hb1.mono hBX.size), HF⟩, by simp [intOf]; omega⟩
    · have hok : l.all Nd.ok = true := by
        have := HE.out
        rw [List.drop_eq_nil_of_le (by omega)] at this
        exact this
      have HG : Hid (Z = if l.Pairwise Nd.apart then 0 else 5) := Lib.hid (by rw [HR.out, if_pos hok])
      have HRP := Lib.hid (repeats_any A l c wr ((hl.below hB).more hB.size) (by omega) hok)
      clear HE HR
      by_cases hp : l.Pairwise Nd.apart
      · have HZ : Hid (Z = 0) := Lib.hid (by rw [HG.out, if_pos hp])
        have hd : (!decide (l.Pairwise Nd.apart)) = false := by simp [hp]
        rw [hd] at HRP
        clear HG hp hd
        go_wp2_with fail
        refine (HRP.out).mono ?_
        rintro e w1 ⟨rfl, hb1⟩
        go_wp2_with fail
        go_ret
        exact ⟨ret_int HZ.out.symm, hB.trans (hb1.mono hB.size)⟩
      · have HZ : Hid (Z = 5) := Lib.hid (by rw [HG.out, if_neg hp])
        have hd : (!decide (l.Pairwise Nd.apart)) = true := by simp [hp]
        rw [hd] at HRP
        clear HG hp hd
        go_wp2_with fail
        refine (HRP.out).mono ?_
        rintro e w1 ⟨rfl, hb1⟩
        go_wp2_with fail
        go_ret
        exact ⟨ret_int HZ.out.symm, hB.trans (hb1.mono hB.size)⟩
end Go.Proofs.YtjokbdhineilcaaGreatDoor
