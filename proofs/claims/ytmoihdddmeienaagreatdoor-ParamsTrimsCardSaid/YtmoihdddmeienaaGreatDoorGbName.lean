/-
  The first item of a kind; Special; a name of a path; Path. Conditions: at most a million items and bytes.
-/
import Derived.Test.YtmoihdddmeienaaGreatDoorGbWhole
import Derived.Test.YtmoihdddmeienaaGreatDoorGbPathPure
import Derived.Test.YtmoihdddmeienaaGreatDoorMkShelf
namespace Go.Proofs.YtmoihdddmeienaaGreatDoor
open Go Go.RowKit

/-- The place of the first item that p tells; -1, if none is told. -/
def idxI (f : It → Bool) (p : List It) : Int := if p.findIdx f < p.length then (p.findIdx f : Int) else -1
theorem findIdx_go {f : It → Bool} {p : List It} {k : Nat} (h : k ≤ p.findIdx f) (hk : k < p.length) (hm : f p[k] = false) : k + 1 ≤ p.findIdx f := by
  rcases Nat.lt_or_ge k (p.findIdx f) with h1 | h1
  · exact h1
  · have e : p.findIdx f = k := by omega
    have := List.findIdx_getElem (xs := p) (p := f) (w := by omega)
    simp only [e, hm] at this
    cases this
theorem findIdx_at {f : It → Bool} {p : List It} {k : Nat} (h : k ≤ p.findIdx f) (hk : k < p.length) (hm : f p[k] = true) : p.findIdx f = k := by
  rcases Nat.lt_or_ge k (p.findIdx f) with h1 | h1
  · have := List.not_of_lt_findIdx (xs := p) (p := f) h1
    simp [hm] at this
  · omega
theorem idxI_at {f : It → Bool} {p : List It} {k : Nat} (h : k ≤ p.findIdx f) (hk : k < p.length) (hm : f p[k] = true) : idxI f p = k := by
  have := findIdx_at h hk hm
  simp [idxI, this, hk]
theorem idxI_none {f : It → Bool} {p : List It} (h : p.length ≤ p.findIdx f) : idxI f p = -1 := by simp [idxI, Nat.not_lt.2 h]
def notOne (x : It) : Bool := decide (¬ x.1 = 1)

def specialP (l : List It) : Bool := l.any notOne
theorem special_idx (l : List It) : (0 ≤ idxI notOne l) ↔ specialP l = true := by
  unfold idxI specialP
  rw [List.any_eq_true]
  constructor
  · intro h
    split at h
    · rename_i hlt
      exact ⟨l[l.findIdx notOne], List.getElem_mem _, List.findIdx_getElem⟩
    · omega
  · rintro ⟨x, hx, h⟩
    rw [if_pos (List.findIdx_lt_length_of_exists ⟨x, hx, h⟩)]
    omega

theorem elemIt : Tryz.prog.underlying 38 = some (.slice (Tryz.prog.elem 38)) := by kernel_rfl
theorem sizeIt (W : World) : (sizeOf (Tryz.prog.elem 38)).run Tryz.prog W = .ok 4 W := by kernel_rfl

end Go.Proofs.YtmoihdddmeienaaGreatDoor
