/-
  An argument opened as a marked text, for the rows of this seat. Conditions: none.
-/
import Derived.Test.YtmoihdddmeienaaDoorPaRow
import Derived.Test.YtmoihdddmeienaaDoorMkWords
import Derived.Deep.SlicePairs
namespace Go.Proofs.YtmoihdddmeienaaDoor
open Go Go.ChangeShapes Go.WideShapes Go.ChangeAt Go.RowKit Go.Deep

theorem rowCells : Tryd.prog.cellsOf 55 = 2 := by kernel_rfl
theorem rowCells5 : Tryd.prog.cellsOf 5 = 1 := by kernel_rfl
theorem rowCells4 : Tryd.prog.cellsOf 4 = 1 := by kernel_rfl
theorem rowFields : ∃ f0 f1 : Field, Tryd.prog.underlying 55 = some (.struct #[f0, f1]) ∧ f0.offset = 0 ∧ f1.offset = 1 ∧ f0.type = 5 ∧ f1.type = 4 :=
  ⟨_, _, Tryd.underlying55, rfl, rfl, rfl, rfl⟩

set_option maxRecDepth 100000 in
/-- An argument of type []Char reads as a marked text. -/
theorem open_text {H : Type} {enc : TypeId × Value → H} {W : World} {base : Nat} {v : Value} {d : DataW H} {p : List MemPlace} (hv : Value.okWide Tryd.prog W .any base 32 v)
    (h : DataW.Trod enc Tryd.prog W 0 (fun _ => true) true 32 v d p) (hlt : ∀ x ∈ p, x.block < W.heap.size) : ∃ l : List Ch, Tx W W.heap.size v l := by
  obtain ⟨f0, f1, he, o0, o1, t0, t1⟩ := rowFields
  obtain ⟨a0, len, cap, rfl⟩ := okWide_slice Tryd.underlying32 hv
  obtain ⟨fuel, hf⟩ := h
  rcases open_slice_pairs Tryd.underlying32 he rowCells o0 o1 (by rw [t0]; exact rowCells5) (by rw [t1]; exact rowCells4) hf with ⟨hcs, hx⟩ | ⟨a, len', cap', m, n, V0, V1, D0, D1, P0, P1, hcs, _, hl, hm, hmm, hx, hi⟩
  · simp [Value.cells] at hcs
    obtain ⟨rfl, rfl, rfl⟩ := hcs
    exact ⟨[], Sl.nil_ _ _ _⟩
  · simp [Value.cells] at hcs
    obtain ⟨rfl, rfl, rfl⟩ := hcs
    have hlm : len ≤ m := by rw [hmm]; split <;> omega
    have each : ∀ i, i < len → ∃ c : Ch, V0 i = .int .u8 (c.1.toNat : Int) ∧ V1 i = .bool c.2 := by
      intro i hil
      obtain ⟨_, _, h0, h1⟩ := hi i (by omega)
      rw [t0] at h0
      rw [t1] at h1
      obtain ⟨k, e0, _, wk⟩ := DataW.trod_int Tryd.underlying5 h0
      obtain ⟨q, e1, _⟩ := DataW.trod_bool Tryd.underlying4 h1
      have hk : 0 ≤ k ∧ k ≤ 255 := by
        have m1 : IntKind.u8.min = 0 := rfl
        have m2 : IntKind.u8.max = 255 := rfl
        simp only [Lit.wf, Bool.and_eq_true, decide_eq_true_eq] at wk
        omega
      refine ⟨(UInt8.ofNat k.toNat, q), ?_, by simpa using e1⟩
      have e : V0 i = .int .u8 k := by simpa using e0
      rw [e, UInt8.toNat_ofNat']
      congr 1
      omega
    obtain ⟨C, hC⟩ := choose_lt (α := Ch) each
    have hlen : ((List.range len).map C).length = len := by simp
    refine ⟨(List.range len).map C, some a, cap, by rw [hlen], by rw [hlen]; exact hl, hm, by rw [cellsCh_length], fun hn => ?_⟩
    have hpos : 0 < len := by omega
    obtain ⟨b, off, spot⟩ := a
    have hspot : spot = none := by simpa [Addr.add] using World.cell?_spot (hi 0 (by omega)).1
    subst hspot
    have hb : b < W.heap.size := by
      simp only [Prod.mk.injEq] at hx
      have := hlt (.cell b off) (by rw [hx.2]; exact List.mem_append_left _ (MemPlace.mem_row.2 ⟨0, by omega, by simp⟩))
      exact this
    refine ⟨b, off, rfl, hb, fun j u hj => ?_⟩
    have hj2 : j < len * 2 := by
      have := (List.getElem?_eq_some_iff.1 hj).1
      rw [cellsCh_length, hlen] at this
      exact this
    have hi2 := hi (j / 2) (by omega)
    have hC2 := hC (j / 2) (by omega)
    rw [add_plain0, add_plain0] at hi2
    have hg : ∀ (hh : j / 2 < ((List.range len).map C).length), ((List.range len).map C)[j / 2] = C (j / 2) := fun hh => by simp
    rcases Nat.mod_two_eq_zero_or_one j with e | e
    · have ej : j = j / 2 * 2 := by omega
      have h0 := cellsCh_0 ((List.range len).map C) (j / 2) (by omega)
      rw [hg, ← ej] at h0
      rw [← ej] at hi2
      rw [h0] at hj
      injection hj with hj
      rw [hi2.1, hC2.1, hj]
    · have ej : j = j / 2 * 2 + 1 := by omega
      have h0 := cellsCh_1 ((List.range len).map C) (j / 2) (by omega)
      rw [hg, ← ej] at h0
      rw [← ej] at hi2
      rw [h0] at hj
      injection hj with hj
      rw [hi2.2.1, hC2.2, hj]
end Go.Proofs.YtmoihdddmeienaaDoor
