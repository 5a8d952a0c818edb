/-
  The statements' own examples: sane answers true, in every world; it only makes memory. No condition.
-/
import Derived.Test.YtofandkijmbplaaDoorKsD
import Derived.Test.YtofandkijmbplaaDoorKsE
namespace Go.Proofs.YtofandkijmbplaaDoor
open Go.RowKit

def sp (a b : ByteArray) : Rg := ⟨⟨a, false⟩, ⟨b, false⟩⟩
theorem kl_one (a b : UInt8) : kl ⟨#[a]⟩ ⟨#[b]⟩ = decide (a < b) := by
  unfold kl
  rw [toList_data, toList_data]
  simp [Op.bytesLess]
theorem sane_int : Rg.intK (sp ⟨#[97]⟩ ⟨#[109]⟩) ⟨⟨⟨#[99]⟩, false⟩, ⟨⟨#[]⟩, true⟩⟩ = sp ⟨#[99]⟩ ⟨#[109]⟩ := by
  simp [Rg.intK, Rg.orZ, Rg.emp, Rg.ok, Bd.ok, Bd.cmp, Bd.hiK, Bd.loK, sp, kl_one, vk, toList_data, ByteArray.size]
theorem sane_t1 : tilesK [sp ⟨#[97]⟩ ⟨#[99]⟩, sp ⟨#[100]⟩ ⟨#[102]⟩] (sp ⟨#[97]⟩ ⟨#[102]⟩) = (1, 9) := by
  simp [tilesK, tilesF, tileK, Rg.emp, Rg.ok, Bd.ok, Bd.cmp, sp, kl_one, vk, ByteArray.size]
theorem sane_t2 : tilesK [sp ⟨#[97]⟩ ⟨#[99]⟩, sp ⟨#[99]⟩ ⟨#[102]⟩] (sp ⟨#[97]⟩ ⟨#[102]⟩) = (2, 0) := by
  simp [tilesK, tilesF, tileK, Rg.emp, Rg.ok, Bd.ok, Bd.cmp, sp, kl_one, vk, ByteArray.size]
theorem sane_has : (sp ⟨#[99]⟩ ⟨#[109]⟩).has ⟨#[100]⟩ = true := by
  simp [Rg.has, Rg.emp, Rg.ok, Bd.ok, Bd.cmp, sp, kl_one, vk, ByteArray.size]
theorem sane_vk : vk ⟨#[]⟩ = true := by simp [vk, ByteArray.size]

set_option maxHeartbeats 400000 in
theorem span_any (a b : ByteArray) (w : World) :
    Calls Tryd.prog 62 #[.string a, .string b] w fun e w' => e = .returned (sp a b).val ∧ Below w.heap.size w w' := by
  go_enter Tryd.func62, Tryd.ntmps62
  go_wp2
  refine bodyPost_ret (v := .agg #[.string _, .bool _, .string _, .bool _]) (by simp [results, Tryd.results62, go_sem]; exact ⟨rfl, rfl, rfl, rfl⟩) rfl ⟨rfl, ?_⟩
  exact (Below.refl _ _).alloc (Nat.le_refl _) _

def SaneP (w : World) (e : Ending) (w' : World) : Prop := e = .returned (.bool true) ∧ Below w.heap.size w w'

set_option maxHeartbeats 3200000 in
theorem sane_any (w : World) : Calls Tryd.prog 23 #[] w (SaneP w) := by
  have hI := Inv.nil w
  go_enter Tryd.func23, Tryd.ntmps23
  go_wp2_with fail
  refine (span_any _ _ _).mono ?_
  rintro e w1 ⟨he, hb⟩
  have he' : e = .returned (.agg #[.string ⟨#[97]⟩, .bool false, .string ⟨#[109]⟩, .bool false]) := he
  subst he'
  clear he
  replace hI := hI.below hb
  clear hb
  go_wp2_with fail
  refine (int_key (sp _ _) ⟨⟨_, _⟩, ⟨_, _⟩⟩ _).mono ?_
  rintro e w2 ⟨he, hb⟩
  rw [sane_int] at he
  have he' : e = .returned (.agg #[.string ⟨#[99]⟩, .bool false, .string ⟨#[109]⟩, .bool false]) := he
  subst he'
  replace hI := (hI.below hb).add 30 #[.string ⟨#[99]⟩, .bool false, .string ⟨#[109]⟩, .bool false]
  clear hb he
  go_wp2_with fail
  refine (span_any _ _ _).mono ?_
  rintro e u1 ⟨he, hb⟩
  have he' : e = .returned (.agg #[.string ⟨#[97]⟩, .bool false, .string ⟨#[99]⟩, .bool false]) := he
  subst he'
  clear he
  replace hI := hI.below hb
  clear hb
  go_wp2_with fail
  refine (span_any _ _ _).mono ?_
  rintro e u2 ⟨he, hb⟩
  have he' : e = .returned (.agg #[.string ⟨#[100]⟩, .bool false, .string ⟨#[102]⟩, .bool false]) := he
  subst he'
  clear he
  replace hI := hI.below hb
  clear hb
  replace hI := hI.add 30 #[.string ⟨#[97]⟩, .bool false, .string ⟨#[99]⟩, .bool false, .string ⟨#[100]⟩, .bool false, .string ⟨#[102]⟩, .bool false]
  go_wp2_with fail
  refine (span_any _ _ _).mono ?_
  rintro e u3 ⟨he, hb⟩
  have he' : e = .returned (.agg #[.string ⟨#[97]⟩, .bool false, .string ⟨#[102]⟩, .bool false]) := he
  subst he'
  clear he
  replace hI := hI.below hb
  clear hb
  go_wp2_with fail
  have hR : Rgs u3 u3.heap.size (some ⟨u2.heap.size, 0, none⟩) [sp ⟨#[97]⟩ ⟨#[99]⟩, sp ⟨#[100]⟩ ⟨#[102]⟩] := fun _ => ⟨_, _, rfl, (hI.2 _ (.head _)).lt, fun i hi => by
    have hc := hI.hd.1
    match i, hi with
    | 0, _ => exact ⟨hc 0, hc 1, hc 2, hc 3⟩
    | 1, _ => exact ⟨hc 4, hc 5, hc 6, hc 7⟩⟩
  refine (tiles_key [sp ⟨#[97]⟩ ⟨#[99]⟩, sp ⟨#[100]⟩ ⟨#[102]⟩] (sp ⟨#[97]⟩ ⟨#[102]⟩) _ 2 _ hR (by decide) (by decide)).mono ?_
  rintro e u4 ⟨he, hb⟩
  rw [sane_t1] at he
  subst he
  replace hI := hI.tl.below (hb.mono (Nat.le_refl _))
  clear hb hR
  go_wp2_with fail
  refine (span_any _ _ _).mono ?_
  rintro e v1 ⟨he, hb⟩
  have he' : e = .returned (.agg #[.string ⟨#[97]⟩, .bool false, .string ⟨#[99]⟩, .bool false]) := he
  subst he'
  clear he
  replace hI := hI.below hb
  clear hb
  go_wp2_with fail
  refine (span_any _ _ _).mono ?_
  rintro e v2 ⟨he, hb⟩
  have he' : e = .returned (.agg #[.string ⟨#[99]⟩, .bool false, .string ⟨#[102]⟩, .bool false]) := he
  subst he'
  clear he
  replace hI := hI.below hb
  clear hb
  replace hI := hI.add 30 #[.string ⟨#[97]⟩, .bool false, .string ⟨#[99]⟩, .bool false, .string ⟨#[99]⟩, .bool false, .string ⟨#[102]⟩, .bool false]
  go_wp2_with fail
  refine (span_any _ _ _).mono ?_
  rintro e v3 ⟨he, hb⟩
  have he' : e = .returned (.agg #[.string ⟨#[97]⟩, .bool false, .string ⟨#[102]⟩, .bool false]) := he
  subst he'
  clear he
  replace hI := hI.below hb
  clear hb
  go_wp2_with fail
  have hR : Rgs v3 v3.heap.size (some ⟨v2.heap.size, 0, none⟩) [sp ⟨#[97]⟩ ⟨#[99]⟩, sp ⟨#[99]⟩ ⟨#[102]⟩] := fun _ => ⟨_, _, rfl, (hI.2 _ (.head _)).lt, fun i hi => by
    have hc := hI.hd.1
    match i, hi with
    | 0, _ => exact ⟨hc 0, hc 1, hc 2, hc 3⟩
    | 1, _ => exact ⟨hc 4, hc 5, hc 6, hc 7⟩⟩
  refine (tiles_key [sp ⟨#[97]⟩ ⟨#[99]⟩, sp ⟨#[99]⟩ ⟨#[102]⟩] (sp ⟨#[97]⟩ ⟨#[102]⟩) _ 2 _ hR (by decide) (by decide)).mono ?_
  rintro e v4 ⟨he, hb⟩
  rw [sane_t2] at he
  subst he
  replace hI := hI.tl.below (hb.mono (Nat.le_refl _))
  clear hb hR
  go_wp2_with fail
  have r1 := fun (w' : World) (h : Inv w [(w2.heap.size, 30, #[Value.string ⟨#[99]⟩, Value.bool false, Value.string ⟨#[109]⟩, Value.bool false])] w') => h.hd.1
  simp only at r1
  go_region_held3 (fun w' => Inv w [(w2.heap.size, 30, #[Value.string ⟨#[99]⟩, Value.bool false, Value.string ⟨#[109]⟩, Value.bool false])] w')
    (first | exact hS1 | exact hI.drew | assumption)
    (first | (go_at_call 62; refine (span_any _ _ _).mono ?_; rintro e w5 ⟨he, hb⟩; have he' : e = .returned (.agg #[.string ⟨#[99]⟩, .bool false, .string ⟨#[109]⟩, .bool false]) := he; subst he'; clear he; have hS1 := Inv.below ‹_› hb; clear hb)
           | (go_at_call 59; refine (vk_key _ _).mono ?_; rintro e w5 ⟨he, rfl⟩; rw [sane_vk] at he; subst he)
           | (go_at_call 30; refine (has_key (sp _ _) _ _).mono ?_; rintro e w5 ⟨he, hb⟩; rw [sane_has] at he; subst he; have hS1 := Inv.below ‹_› hb; clear hb))
  go_wp2
  go_ret
  exact ⟨rfl, hS1.1⟩

end Go.Proofs.YtofandkijmbplaaDoor
