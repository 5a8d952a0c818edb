/-
  IDs, SameInts and SameLists of the reference of chapter 5, Lists of that of chapter 6. Condition: what is read can be read.
-/
import Derived.Test.YtjokbdhineilcaaGreatDoorLmJ
import Derived.Test.YtjokbdhineilcaaGreatDoorLdG
import Derived.StillTailTactics
namespace Go.Proofs.YtjokbdhineilcaaGreatDoor
open Go.RowKit

theorem lst_bd {l : List Nd} (h : Int) : (lstV l h).length ≤ 1000000 ∧ ∀ x ∈ lstV l h, x.length ≤ 1000000 := by
  unfold lstV
  split
  · rename_i k
    have h1 := srt_le k.1
    have h2 := clsV_len_le (srt l) h
    refine ⟨by rw [List.length_map]; omega, fun x hx => ?_⟩
    obtain ⟨cc, hcc, rfl⟩ := List.mem_map.1 hx
    have h3 := lks_flat_le (srt l) h (clsV (srt l) h).length
    rw [List.take_length, lks_flat_len] at h3
    have h4 : cc.length ≤ ((clsV (srt l) h).map List.length).sum := by
      obtain ⟨s, t, e⟩ := List.append_of_mem hcc
      rw [e]
      simp
      omega
    rw [List.length_map]
    omega
  · simp
end Go.Proofs.YtjokbdhineilcaaGreatDoor
