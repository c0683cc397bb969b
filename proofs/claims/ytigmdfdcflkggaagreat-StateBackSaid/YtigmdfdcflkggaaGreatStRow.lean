/-
  What every row of this seat needs: a world for the witness, calls that are asked for.
-/
import Derived.Test.YtigmdfdcflkggaaGreatRows
import Derived.Test.YtigmdfdcflkggaaGreatStFew
import Derived.Test.YtigmdfdcflkggaaGreatStDoesN
import Derived.ProofKit
import Derived.OpenShut
import Derived.Deep.SlicePairs
import Derived.Deep.Strs
import Derived.Deep.DeepHandedRow
namespace Go.Proofs.YtigmdfdcflkggaaGreat
open Go Go.ChangeShapes Go.WideShapes Go.ChangeAt Go.RowKit Go.Deep

theorem rowOwn : ownKnob Tryz.prog.godebug = none := by kernel_rfl
theorem rowOut : laidOutB Tryz.prog = true := by kernel_rfl
/-- A world for the witness: the settled one. -/
noncomputable def plainWorld (os : Os) : World := World.holding Tryz.prog os ⟨#[], #[], []⟩
theorem laid_none (m : World) : laidMet Tryz.prog [] m := ⟨[], rfl, List.nodup_nil, fun _ _ h => by cases h⟩

theorem cellsOpd : Tryz.prog.cellsOf 39 = 5 := by kernel_rfl
theorem cellsStr : Tryz.prog.cellsOf 9 = 1 := by kernel_rfl
theorem cellsInt : Tryz.prog.cellsOf 3 = 1 := by kernel_rfl
theorem cellsStrs : Tryz.prog.cellsOf 35 = 1 := by kernel_rfl
theorem opdFields : ∃ f0 f1 f2 f3 f4 : Field, Tryz.prog.underlying 39 = some (.struct #[f0, f1, f2, f3, f4]) ∧ (f0.offset = 0 ∧ f1.offset = 1 ∧ f2.offset = 2 ∧ f3.offset = 3 ∧ f4.offset = 4) ∧ f0.type = 3 ∧ f1.type = 9 ∧ f2.type = 9 ∧ f3.type = 3 ∧ f4.type = 35 :=
  ⟨_, _, _, _, _, Tryz.underlying39, ⟨rfl, rfl, rfl, rfl, rfl⟩, rfl, rfl, rfl, rfl, rfl⟩
section
variable {H : Type} {enc : TypeId × Value → H} {W : World}
set_option maxRecDepth 100000 in
theorem open_int_cell {fuel : Nat} {v : Value} {x : DataW H × List MemPlace} (h : DataW.trod enc Tryz.prog W 0 (fun _ => true) true fuel 3 [v] = some x) : ∃ n : Int, v = .int .i64 n ∧ In64 n := by
  obtain ⟨n, e1, _, wk⟩ := DataW.trod_int Tryz.underlying3 h
  refine ⟨n, by simpa using e1, ?_⟩
  have m1 : IntKind.i64.min = -9223372036854775808 := rfl
  have m2 : IntKind.i64.max = 9223372036854775807 := rfl
  simp only [Lit.wf, Bool.and_eq_true, decide_eq_true_eq] at wk
  unfold In64
  omega
set_option maxRecDepth 100000 in
theorem texts_cell {fuel : Nat} {v : Value} {x : DataW H × List MemPlace} (h : DataW.trod enc Tryz.prog W 0 (fun _ => true) true fuel 35 [v] = some x) (hlt : ∀ y ∈ x.2, y.block < W.heap.size) : ∃ A m c l, v = .slice A m c ∧ Txs W A m c l := by
  rcases open_strs (cs := [v]) Tryz.underlying35 Tryz.underlying9 cellsStr h with ⟨hcs, _⟩ | ⟨a, len, cap, m, Sx, hcs, _, hl, hm, hmm, hx, hi⟩
  · obtain rfl : v = .slice none 0 0 := by simpa using hcs
    exact ⟨none, 0, 0, [], rfl, rfl, Nat.le_refl _, Nat.zero_le _, fun h => absurd h (Nat.lt_irrefl _)⟩
  · obtain rfl : v = .slice (some a) len cap := by simpa using hcs
    have hlm : len ≤ m := by rw [hmm]; split <;> omega
    refine ⟨some a, len, cap, (List.range len).map Sx, rfl, by simp, hl, hm, fun hn => ?_⟩
    obtain ⟨b, off, spot⟩ := a
    have hspot : spot = none := by simpa [Addr.add] using World.cell?_spot (hi 0 (by omega)).1
    subst hspot
    have hb : b < W.heap.size := hlt (.cell b off) (by rw [hx]; exact MemPlace.mem_row.2 ⟨0, by omega, by simp⟩)
    refine ⟨b, off, rfl, hb, fun j u hj => ?_⟩
    have hj2 : j < len := by
      have := (List.getElem?_eq_some_iff.1 hj).1
      simpa using this
    have := (hi j (by omega)).1
    rw [add_plain0] at this
    rw [this]
    simp [hj2] at hj
    rw [hj]
instance : Inhabited Od := ⟨⟨0, ⟨#[]⟩, ⟨#[]⟩, 0, none, 0, 0, []⟩⟩
set_option maxRecDepth 100000 in
theorem open_ops {base : Nat} {v : Value} {d : DataW H} {p : List MemPlace} (hv : Value.okWide Tryz.prog W .any base 22 v)
    (h : DataW.Trod enc Tryz.prog W 0 (fun _ => true) true 22 v d p) (hlt : ∀ x ∈ p, x.block < W.heap.size) :
    ∃ A m c l, v = .slice A m c ∧ OpsC W A m c l ∧ (∀ o ∈ l, Txs W o.A o.m o.c o.l) ∧ ∀ o ∈ l, In64 o.x ∧ In64 o.n := by
  obtain ⟨f0, f1, f2, f3, f4, he, ⟨o0, o1, o2, o3, o4⟩, t0, t1, t2, t3, t4⟩ := opdFields
  obtain ⟨a0, len0, cap0, rfl⟩ := okWide_slice Tryz.underlying22 hv
  obtain ⟨fuel, hf⟩ := h
  rcases open_slice (cs := [.slice a0 len0 cap0]) Tryz.underlying22 (by simpa [Value.cells] using hf) with ⟨hcs, _⟩ | ⟨a, len, cap, m, n, D, Pl, hcs, _, hl, hm, hmm, hx, hi⟩
  · obtain ⟨rfl, rfl, rfl⟩ : a0 = none ∧ len0 = 0 ∧ cap0 = 0 := by simpa using hcs
    exact ⟨none, 0, 0, [], rfl, ⟨rfl, Nat.le_refl _, Nat.zero_le _, fun h => absurd h (Nat.lt_irrefl _)⟩, fun _ h => by (cases h), fun _ h => by (cases h)⟩
  · obtain ⟨rfl, rfl, rfl⟩ : a0 = some a ∧ len0 = len ∧ cap0 = cap := by simpa using hcs
    have hlm : len0 ≤ m := by rw [hmm]; split <;> omega
    simp only [Prod.mk.injEq] at hx
    have each : ∀ i, i < len0 → ∃ q : Od, (W.cell? (a.add (i * 5)) = some (.int .i64 q.x) ∧ W.cell? (a.add (i * 5 + 1)) = some (.string q.k) ∧ W.cell? (a.add (i * 5 + 2)) = some (.string q.s) ∧ W.cell? (a.add (i * 5 + 3)) = some (.int .i64 q.n) ∧ W.cell? (a.add (i * 5 + 4)) = some (.slice q.A q.m q.c)) ∧ Txs W q.A q.m q.c q.l ∧ In64 q.x ∧ In64 q.n := by
      intro i hil
      obtain ⟨cs', h1, h2⟩ := hi i (by omega)
      rw [cellsOpd] at h1
      obtain ⟨_, hlen, hcell⟩ := World.cells?_some h1
      obtain ⟨xs, k, _, hxy, _, hxl, hg⟩ := DataW.trod_struct he h2
      simp only [Prod.mk.injEq] at hxy
      match cs', hlen with
      | [c0, c1, c2, c3, c4], _ =>
        have hxl5 : xs.length = 5 := by simpa using hxl
        have g0 := hg 0 f0 rfl
        have g1 := hg 1 f1 rfl
        have g2 := hg 2 f2 rfl
        have g3 := hg 3 f3 rfl
        have g4 := hg 4 f4 rfl
        rw [o0, t0, cellsInt, List.getElem?_eq_getElem (by omega)] at g0
        rw [o1, t1, cellsStr, List.getElem?_eq_getElem (by omega)] at g1
        rw [o2, t2, cellsStr, List.getElem?_eq_getElem (by omega)] at g2
        rw [o3, t3, cellsInt, List.getElem?_eq_getElem (by omega)] at g3
        rw [o4, t4, cellsStrs, List.getElem?_eq_getElem (by omega)] at g4
        have hP : ∀ y ∈ (xs[4]'(by omega)).2, y.block < W.heap.size := fun y hy => hlt y (by
          rw [hx.2]
          refine List.mem_append_right _ (List.mem_flatMap.2 ⟨i, List.mem_range.2 (by omega), ?_⟩)
          rw [hxy.2]
          exact List.mem_flatMap.2 ⟨_, List.getElem_mem _, hy⟩)
        obtain ⟨n0, e0, b0⟩ := open_int_cell (v := c0) (by simpa using g0)
        obtain ⟨s1, e1, _, _⟩ := DataW.trod_string Tryz.underlying9 g1
        obtain ⟨s2, e2, _, _⟩ := DataW.trod_string Tryz.underlying9 g2
        obtain ⟨n3, e3, b3⟩ := open_int_cell (v := c3) (by simpa using g3)
        obtain ⟨A4, m4, c4', l4, e4, x4⟩ := texts_cell (v := c4) (by simpa using g4) hP
        subst e0 e3 e4
        obtain rfl : c1 = .string s1 := by simpa using e1
        obtain rfl : c2 = .string s2 := by simpa using e2
        have e0 := hcell 0 (by omega)
        have e1 := hcell 1 (by omega)
        have e2 := hcell 2 (by omega)
        have e3 := hcell 3 (by omega)
        have e4 := hcell 4 (by omega)
        rw [add_add] at e0 e1 e2 e3 e4
        exact ⟨⟨n0, s1, s2, n3, A4, m4, c4', l4⟩, ⟨by simpa using e0, by simpa using e1, by simpa using e2, by simpa using e3, by simpa using e4⟩, x4, b0, b3⟩
    obtain ⟨C, hC⟩ := choose_lt (α := Od) each
    refine ⟨some a, len0, cap0, (List.range len0).map C, rfl, ⟨by simp, hl, hm, fun hn => ?_⟩, fun o ho => ?_, fun o ho => ?_⟩
    · obtain ⟨b, off, spot⟩ := a
      have hspot : spot = none := by simpa [Addr.add] using World.cell?_spot (hC 0 (by omega)).1.1
      subst hspot
      have hb : b < W.heap.size := hlt (.cell b off) (by rw [hx.2]; exact List.mem_append_left _ (MemPlace.mem_row.2 ⟨0, by rw [cellsOpd]; omega, by simp⟩))
      refine ⟨b, off, rfl, hb, fun j o ho => ?_⟩
      have hj2 : j < len0 := by
        have := (List.getElem?_eq_some_iff.1 ho).1
        simpa using this
      simp [hj2] at ho
      subst ho
      have h5 := (hC j hj2).1
      rw [add_plain0, add_plain0, add_plain0, add_plain0, add_plain0] at h5
      simpa [Nat.add_assoc] using h5
    · obtain ⟨i, hi, rfl⟩ := List.mem_map.1 ho
      exact (hC i (List.mem_range.1 hi)).2.1
    · obtain ⟨i, hi, rfl⟩ := List.mem_map.1 ho
      exact (hC i (List.mem_range.1 hi)).2.2
end
end Go.Proofs.YtigmdfdcflkggaaGreat
