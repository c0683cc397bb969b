/-
  Numbers as an argument.
-/
import Derived.Test.YtffipbmonfodbaaGreatDoorHnRow
import Derived.Deep.Strs
namespace Go.Proofs.YtffipbmonfodbaaGreatDoor
open Go Go.ChangeShapes Go.WideShapes Go.ChangeAt Go.RowKit Go.Deep

/-- A slice reads as such numbers. -/
def Nums (w : World) (v : Value) (l : List Int) : Prop := Sl w w.heap.size 1 v l.length (l.map (Value.int .i64))
theorem Nums.form {w : World} {v : Value} {l : List Int} (h : Nums w v l) : ∃ A c, v = .slice A l.length c ∧ l.length ≤ c ∧ c ≤ maxLen := by
  obtain ⟨A, c, hv, h1, h2, _⟩ := h
  exact ⟨A, c, hv, h1, h2⟩
theorem Nums.at_ {w wr : World} {A : Option Addr} {n c : Nat} {l : List Int} (h : Nums w (.slice A n c) l) (hm : ∀ b, b < w.heap.size → wr.heap[b]? = w.heap[b]?) (k : Nat) (hk : k < l.length) : ∃ b off : Nat, A = some ⟨b, off, none⟩ ∧ b < w.heap.size ∧ wr.cell? ⟨b, off + k, none⟩ = some (.int .i64 l[k]) := by
  obtain ⟨A', c', hv, h1, h2, h3, h4⟩ := h
  injection hv with e1 e2 e3
  subst e1 e2 e3
  obtain ⟨b, off, hA, hlt, hc⟩ := h4 (by omega)
  exact ⟨b, off, hA, hlt, (World.cell?_of_block (a := ⟨b, off + k, none⟩) (hm b hlt)).trans (hc k _ (by simp [hk]))⟩
section
variable {H : Type} {enc : TypeId × Value → H} {W : World}
set_option maxRecDepth 100000 in
theorem open_nums {base : Nat} {v : Value} {d : DataW H} {p : List MemPlace} (hv : Value.okWide Tryz.prog W .any base 22 v)
    (h : DataW.Trod enc Tryz.prog W 0 (fun _ => true) true 22 v d p) (hlt : ∀ x ∈ p, x.block < W.heap.size) : ∃ l : List Int, Nums W v l := by
  obtain ⟨a0, len0, cap0, rfl⟩ := okWide_slice Tryz.underlying22 hv
  obtain ⟨fuel, hf⟩ := h
  rcases open_slice (cs := [.slice a0 len0 cap0]) Tryz.underlying22 (by simpa [Value.cells] using hf) with ⟨hcs, _⟩ | ⟨a, len, cap, m, n, D, Pl, hcs, _, hl, hm, hmm, hx, hi⟩
  · obtain ⟨rfl, rfl, rfl⟩ : a0 = none ∧ len0 = 0 ∧ cap0 = 0 := by simpa using hcs
    exact ⟨[], Sl.nil_ _ _ _⟩
  · obtain ⟨rfl, rfl, rfl⟩ : a0 = some a ∧ len0 = len ∧ cap0 = cap := by simpa using hcs
    have hlm : len0 ≤ m := by rw [hmm]; split <;> omega
    simp only [Prod.mk.injEq] at hx
    have each : ∀ i, i < len0 → ∃ q : Int, W.cell? (a.add i) = some (.int .i64 q) ∧ In64 q := by
      intro i hil
      obtain ⟨cs', h1, h2⟩ := hi i (by omega)
      rw [cellsInt, Nat.mul_one] at h1
      obtain ⟨_, hlen, hcell⟩ := World.cells?_some h1
      match cs', hlen with
      | [c0], _ =>
        obtain ⟨n0, e0, b0⟩ := open_int_cell (v := c0) h2
        subst e0
        have e0 := hcell 0 (by omega)
        rw [add_add] at e0
        exact ⟨n0, by simpa using e0, b0⟩
    obtain ⟨C, hC⟩ := choose_lt (α := Int) each
    have hlen : ((List.range len0).map C).length = len0 := by simp
    refine ⟨(List.range len0).map C, ⟨some a, cap0, by rw [hlen], by rw [hlen]; exact hl, hm, by rw [List.length_map, Nat.mul_one], fun hn => ?_⟩⟩
    have hpos : 0 < len0 := by omega
    obtain ⟨b, off, spot⟩ := a
    have hspot : spot = none := by simpa [Addr.add] using World.cell?_spot (hC 0 (by omega)).1
    subst hspot
    have hb : b < W.heap.size := by
      have := hlt (.cell b off) (by rw [hx.2]; exact List.mem_append_left _ (MemPlace.mem_row.2 ⟨0, by rw [cellsInt]; omega, by simp⟩))
      exact this
    refine ⟨b, off, rfl, hb, fun j u hj => ?_⟩
    have hj2 : j < len0 := by
      have := (List.getElem?_eq_some_iff.1 hj).1
      rw [List.length_map, hlen] at this
      exact this
    have hC2 := (hC j hj2).1
    rw [add_plain0] at hC2
    rw [List.getElem?_map, List.getElem?_map, List.getElem?_range hj2] at hj
    simp only [Option.map_some, Option.some.injEq] at hj
    rw [← hj]; exact hC2
end
end Go.Proofs.YtffipbmonfodbaaGreatDoor
