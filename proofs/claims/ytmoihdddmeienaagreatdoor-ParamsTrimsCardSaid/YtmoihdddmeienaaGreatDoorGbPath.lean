/-
  Path tells whether a pattern fits a path. Conditions: at most a million items and bytes.
-/
import Derived.Test.YtmoihdddmeienaaGreatDoorGbName
import Derived.Deep.RegionHeld3
import Derived.Deep.QuietTactic
import Derived.BigQuiet
namespace Go.Proofs.YtmoihdddmeienaaGreatDoor
open Go Go.RowKit

theorem idxB_split (s : List UInt8) (c : UInt8) : (Lib.indexByte s c = -1 ∧ c ∉ s) ∨ ∃ u v, s = u ++ c :: v ∧ c ∉ u ∧ Lib.indexByte s c = (u.length : Int) := by
  induction s with
  | nil => exact .inl ⟨rfl, by simp⟩
  | cons b s ih =>
    simp only [Lib.indexByte]
    by_cases hb : b = c
    · subst hb
      exact .inr ⟨[], s, rfl, by simp, by simp⟩
    · rw [if_neg (by simpa using hb)]
      rcases ih with ⟨h1, h2⟩ | ⟨u, v, rfl, hu, h1⟩
      · left
        rw [h1]
        exact ⟨rfl, by simp [Ne.symm hb, h2]⟩
      · right
        refine ⟨b :: u, v, rfl, by simp [Ne.symm hb, hu], ?_⟩
        rw [h1, if_neg (by simp; try omega)]
        simp
theorem idxSl_split (p : List It) : (idxI isSl p = -1 ∧ ∀ x ∈ p, isSl x = false) ∨ ∃ p1 x p2, p = p1 ++ x :: p2 ∧ (∀ y ∈ p1, isSl y = false) ∧ isSl x = true ∧ idxI isSl p = (p1.length : Int) := by
  unfold idxI
  by_cases h : p.findIdx isSl < p.length
  · right
    rw [if_pos h]
    refine ⟨p.take (p.findIdx isSl), p[p.findIdx isSl], p.drop (p.findIdx isSl + 1), ?_, fun y hy => ?_, List.findIdx_getElem, ?_⟩
    · rw [← List.drop_eq_getElem_cons h, List.take_append_drop]
    · obtain ⟨i, hi, rfl⟩ := List.mem_iff_getElem.1 hy
      rw [List.getElem_take]
      have := List.not_of_lt_findIdx (xs := p) (p := isSl) (i := i) (by simp at hi; omega)
      simpa using this
    · rw [List.length_take]; omega
  · left
    rw [if_neg h]
    refine ⟨rfl, fun x hx => ?_⟩
    rw [Bool.eq_false_iff]
    intro hs
    exact h (List.findIdx_lt_length_of_exists ⟨x, hx, hs⟩)

end Go.Proofs.YtmoihdddmeienaaGreatDoor
