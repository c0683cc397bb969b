/-
  whole tells whether rows, with any bytes between them, fit all of a text; Match. Conditions: at most a million rows and bytes.
-/
import Derived.Test.YtmoihdddmeienaaGreatDoorGbHead
namespace Go.Proofs.YtmoihdddmeienaaGreatDoor
open Go Go.RowKit

theorem elemRows : Tryz.prog.underlying 77 = some (.slice (Tryz.prog.elem 77)) := by kernel_rfl
theorem sizeRows (W : World) : (sizeOf (Tryz.prog.elem 77)).run Tryz.prog W = .ok 1 W := by kernel_rfl
theorem cut_rows_h {w : World} {B : Nat} {A : Option Addr} {c hi n : Nat} {l : List (List St)} (h : Rws w B (.slice A n c) l) (hn : n = l.length) (hh : hi ≤ n) :
    ∃ v', (∀ (W : World) (kh : IntKind), (Instr.slice 77 (.slice A n c) none (some (.int kh (hi : Int))) none).run Tryz.prog W = .ok v' W) ∧ Rws w B v' (l.take hi) := by
  subst hn
  obtain ⟨vs, hsl, hr⟩ := h
  have hc : l.length ≤ c := by obtain ⟨A', c', hv, hc, _⟩ := hsl; injection hv with e1 e2 e3; subst e3; exact hc
  refine ⟨sliced A 0 hi c 1, fun W kh => ?_, vs.take hi, ?_, fun i x hx => ?_⟩
  · rw [run_slice_h W 77 A l.length c elemRows kh hi (by omega) (by omega), sizeRows W]
    simp only [Result.andThen, Int.toNat_natCast]
  · have hcut := Sl.cut (lo := 0) (hi := hi) hsl (Nat.zero_le _) hh
    rw [Nat.zero_mul, List.drop_zero, Nat.sub_zero, Nat.mul_one] at hcut
    rw [List.length_take, Nat.min_eq_left hh]
    exact hcut
  · rw [List.getElem?_take] at hx ⊢
    split at hx
    · rename_i hj; rw [if_pos hj]; exact hr i x hx
    · cases hx

theorem says_ne {ls : List (List St)} {p : List It} (h : SaysRows ls (rowsP p)) : ls ≠ [] := by
  intro e
  have := h.2
  rw [e] at this
  exact rowsP_ne p this.symm
theorem says_short {ls : List (List St)} {p : List It} (h : SaysRows ls (rowsP p)) (hl : p.length ≤ 999999) : ls.length ≤ 1000000 ∧ ∀ l ∈ ls, l.length ≤ 1000000 := by
  have h1 := rowsP_len p
  refine ⟨by have := says_len h; omega, fun l hl => ?_⟩
  have : l.map hasS ∈ rowsP p := by rw [← h.2]; exact List.mem_map_of_mem hl
  have := h1.2 _ this
  rw [List.length_map] at this
  omega

end Go.Proofs.YtmoihdddmeienaaGreatDoor
