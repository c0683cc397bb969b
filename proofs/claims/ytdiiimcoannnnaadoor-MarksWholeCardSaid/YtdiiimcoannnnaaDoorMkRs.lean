/-
  A row of runs, to be read.
-/
import Derived.Test.YtdiiimcoannnnaaDoorMkRRuns
namespace Go.Proofs.YtdiiimcoannnnaaDoor
open Go Go.RowKit

def Rs (w : World) (B : Nat) (v : Value) (l : List Rn) : Prop := Sl w B 2 v l.length (cellsRn l)
section
variable {w w' : World} {B B' : Nat} {v : Value} {l : List Rn}
theorem cellsRn_drop (l : List Rn) (k : Nat) : (cellsRn l).drop (k * 2) = cellsRn (l.drop k) := by
  induction l generalizing k with
  | nil => simp [cellsRn]
  | cons a l ih =>
    cases k with
    | zero => simp
    | succ k =>
      have := ih k
      rw [show (k + 1) * 2 = k * 2 + 2 by omega, List.drop_succ_cons, ← this]
      rfl
theorem cellsRn_0 (l : List Rn) (k : Nat) (h : k < l.length) : (cellsRn l)[k * 2]? = some (.string l[k].1) := by
  have h1 := cellsRn_drop l k
  have h2 : (cellsRn l)[k * 2]? = ((cellsRn l).drop (k * 2))[0]? := by rw [List.getElem?_drop, Nat.add_zero]
  rw [h2, h1, List.drop_eq_getElem_cons h]; rfl
theorem cellsRn_1 (l : List Rn) (k : Nat) (h : k < l.length) : (cellsRn l)[k * 2 + 1]? = some (.bool l[k].2) := by
  have h1 := cellsRn_drop l k
  have h2 : (cellsRn l)[k * 2 + 1]? = ((cellsRn l).drop (k * 2))[1]? := by rw [List.getElem?_drop]
  rw [h2, h1, List.drop_eq_getElem_cons h]; rfl
theorem Rs.below (h : Rs w B v l) (hb : Below B w w') : Rs w' B v l := Sl.below h hb
theorem Rs.more (h : Rs w B v l) (hB : B ≤ B') : Rs w B' v l := Sl.more h hB
theorem Rs.form (h : Rs w B v l) : ∃ (A : Option Addr) (c : Nat), v = .slice A l.length c ∧ l.length ≤ c ∧ c ≤ maxLen := by
  obtain ⟨A, c, hv, h1, h2, _⟩ := h
  exact ⟨A, c, hv, h1, h2⟩
theorem Rs.at_ {A : Option Addr} {n c k : Nat} (h : Rs w B (.slice A n c) l) (hk : k < l.length) : ∃ b off : Nat, A = some ⟨b, off, none⟩ ∧ b < B ∧
    w.cell? ⟨b, off + k * 2, none⟩ = some (.string l[k].1) ∧ w.cell? ⟨b, off + k * 2 + 1, none⟩ = some (.bool l[k].2) := by
  obtain ⟨A', c', hv, h1, h2, h3, h4⟩ := h
  injection hv with e1 e2 e3
  subst e1
  obtain ⟨b, off, hA, hb, hc⟩ := h4 (by omega)
  exact ⟨b, off, hA, hb, hc _ _ (cellsRn_0 l k hk), by rw [Nat.add_assoc]; exact hc _ _ (cellsRn_1 l k hk)⟩
theorem Rs.of_own {base : Nat} {e : TypeId} (h : w.ownsRow base e 2 v l.length (cellsRn l)) : Rs w w.heap.size v l := Sl.of_own h
end
theorem runsL_length (l : List Ch) : (runsL l).length ≤ l.length + 1 := by
  have := runA_length l []
  simp only [runsL, groups, List.length_map]; omega
end Go.Proofs.YtdiiimcoannnnaaDoor
