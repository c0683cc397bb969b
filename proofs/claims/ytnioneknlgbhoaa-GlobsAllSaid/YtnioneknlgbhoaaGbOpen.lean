/-
  Arguments opened: a slice of ranges, a slice of items.
-/
import Derived.Test.YtnioneknlgbhoaaGbRow
namespace Go.Proofs.Ytnioneknlgbhoaa
open Go Go.ChangeShapes Go.WideShapes Go.ChangeAt Go.RowKit Go.Deep

theorem cellsRg2 : Try.prog.cellsOf 70 = 2 := by kernel_rfl
theorem cellsU8 : Try.prog.cellsOf 5 = 1 := by kernel_rfl
theorem cellsB : Try.prog.cellsOf 4 = 1 := by kernel_rfl
theorem cellsInt : Try.prog.cellsOf 3 = 1 := by kernel_rfl
theorem cellsRgs : Try.prog.cellsOf 48 = 1 := by kernel_rfl
theorem cellsItem4 : Try.prog.cellsOf 50 = 4 := by kernel_rfl
theorem itemFields : ∃ f0 f1 f2 f3 : Field, Try.prog.underlying 50 = some (.struct #[f0, f1, f2, f3]) ∧ (f0.offset = 0 ∧ f1.offset = 1 ∧ f2.offset = 2 ∧ f3.offset = 3) ∧ f0.type = 3 ∧ f1.type = 5 ∧ f2.type = 4 ∧ f3.type = 48 :=
  ⟨_, _, _, _, Try.underlying50, ⟨rfl, rfl, rfl, rfl⟩, rfl, rfl, rfl, rfl⟩

section
variable {H : Type} {enc : TypeId × Value → H} {W : World}
theorem open_u8 {fuel : Nat} {v : Value} {x : DataW H × List MemPlace} (h : DataW.trod enc Try.prog W 0 (fun _ => true) true fuel 5 [v] = some x) : ∃ b : UInt8, v = .int .u8 (b.toNat : Int) := by
  obtain ⟨k, e0, _, wk⟩ := DataW.trod_int Try.underlying5 h
  have hk : 0 ≤ k ∧ k ≤ 255 := by
    have m1 : IntKind.u8.min = 0 := rfl
    have m2 : IntKind.u8.max = 255 := rfl
    simp only [Lit.wf, Bool.and_eq_true, decide_eq_true_eq] at wk
    omega
  have e : v = .int .u8 k := by simpa using e0
  refine ⟨UInt8.ofNat k.toNat, ?_⟩
  rw [e, UInt8.toNat_ofNat']
  congr 1
  omega

set_option maxRecDepth 100000 in
theorem open_ranges_cells {fuel : Nat} {v : Value} {d : DataW H} {p : List MemPlace} (h : DataW.trod enc Try.prog W 0 (fun _ => true) true fuel 48 [v] = some (d, p)) (hlt : ∀ x ∈ p, x.block < W.heap.size) : ∃ l : List Rg, Rgs W W.heap.size v l := by
  rcases open_slice Try.underlying48 h with ⟨hcs, _⟩ | ⟨a, len, cap, m, n, D, Pl, hcs, _, hl, hm, hmm, hx, hi⟩
  · obtain rfl : v = .slice none 0 0 := by simpa using hcs
    exact ⟨[], Sl.nil_ _ _ _⟩
  · obtain rfl : v = .slice (some a) len cap := by simpa using hcs
    have hlm : len ≤ m := by rw [hmm]; split <;> omega
    have each : ∀ i, i < len → ∃ r : Rg, W.cell? (a.add (i * 2)) = some (.int .u8 (r.1.toNat : Int)) ∧ W.cell? (a.add (i * 2 + 1)) = some (.int .u8 (r.2.toNat : Int)) := by
      intro i hil
      obtain ⟨cs', h1, h2⟩ := hi i (by omega)
      rw [cellsRg2] at h1
      obtain ⟨_, hlen, hcell⟩ := World.cells?_some h1
      obtain ⟨xs, k, _, _, _, hxl, hf⟩ := DataW.trod_array Try.underlying70 h2
      match cs', hlen with
      | [c0, c1], _ =>
        have g0 := hf 0 (by omega)
        have g1 := hf 1 (by omega)
        rw [cellsU8] at g0 g1
        rw [List.getElem?_eq_getElem (by omega)] at g0 g1
        obtain ⟨b0, rfl⟩ := open_u8 g0
        obtain ⟨b1, rfl⟩ := open_u8 g1
        have e0 := hcell 0 (by omega)
        have e1 := hcell 1 (by omega)
        rw [add_add] at e0 e1
        exact ⟨(b0, b1), by simpa using e0, by simpa using e1⟩
    obtain ⟨C, hC⟩ := choose_lt (α := Rg) each
    have hlen : ((List.range len).map C).length = len := by simp
    refine ⟨(List.range len).map C, some a, cap, by rw [hlen], by rw [hlen]; exact hl, hm, by rw [cellsRg_length], fun hn => ?_⟩
    have hpos : 0 < len := by omega
    obtain ⟨b, off, spot⟩ := a
    have hspot : spot = none := by simpa [Addr.add] using World.cell?_spot (hC 0 (by omega)).1
    subst hspot
    have hb : b < W.heap.size := by
      simp only [Prod.mk.injEq] at hx
      have := hlt (.cell b off) (by rw [hx.2]; exact List.mem_append_left _ (MemPlace.mem_row.2 ⟨0, by rw [cellsRg2]; omega, by simp⟩))
      exact this
    refine ⟨b, off, rfl, hb, fun j u hj => ?_⟩
    have hj2 : j < len * 2 := by
      have := (List.getElem?_eq_some_iff.1 hj).1
      rw [cellsRg_length, hlen] at this
      exact this
    have hC2 := hC (j / 2) (by omega)
    rw [add_plain0, add_plain0] at hC2
    have hg : ∀ (hh : j / 2 < ((List.range len).map C).length), ((List.range len).map C)[j / 2] = C (j / 2) := fun hh => by simp
    have h01 := cellsRg_0 ((List.range len).map C) (j / 2) (by omega)
    rw [hg] at h01
    rcases Nat.mod_two_eq_zero_or_one j with e | e
    · have ej : j = j / 2 * 2 := by omega
      rw [← ej] at hC2 h01
      rw [h01.1] at hj
      injection hj with hj
      rw [hC2.1, hj]
    · have ej : j = j / 2 * 2 + 1 := by omega
      rw [← ej] at hC2 h01
      rw [h01.2] at hj
      injection hj with hj
      rw [hC2.2, hj]

set_option maxRecDepth 100000 in
theorem open_ranges {base : Nat} {v : Value} {d : DataW H} {p : List MemPlace} (hv : Value.okWide Try.prog W .any base 48 v)
    (h : DataW.Trod enc Try.prog W 0 (fun _ => true) true 48 v d p) (hlt : ∀ x ∈ p, x.block < W.heap.size) : ∃ l : List Rg, Rgs W W.heap.size v l := by
  obtain ⟨a0, len, cap, rfl⟩ := okWide_slice Try.underlying48 hv
  obtain ⟨fuel, hf⟩ := h
  exact open_ranges_cells (by simpa [Value.cells] using hf) hlt

set_option maxRecDepth 100000 in
theorem open_items {base : Nat} {v : Value} {d : DataW H} {p : List MemPlace} (hv : Value.okWide Try.prog W .any base 24 v)
    (h : DataW.Trod enc Try.prog W 0 (fun _ => true) true 24 v d p) (hlt : ∀ x ∈ p, x.block < W.heap.size) : ∃ l : List It, Its W W.heap.size v l := by
  obtain ⟨f0, f1, f2, f3, he, ⟨o0, o1, o2, o3⟩, t0, t1, t2, t3⟩ := itemFields
  obtain ⟨a0, len0, cap0, rfl⟩ := okWide_slice Try.underlying24 hv
  obtain ⟨fuel, hf⟩ := h
  rcases open_slice (cs := [.slice a0 len0 cap0]) Try.underlying24 (by simpa [Value.cells] using hf) with ⟨hcs, _⟩ | ⟨a, len, cap, m, n, D, Pl, hcs, _, hl, hm, hmm, hx, hi⟩
  · obtain ⟨rfl, rfl, rfl⟩ : a0 = none ∧ len0 = 0 ∧ cap0 = 0 := by simpa using hcs
    exact ⟨[], Its.nil_ _ _⟩
  · obtain ⟨rfl, rfl, rfl⟩ : a0 = some a ∧ len0 = len ∧ cap0 = cap := by simpa using hcs
    have hlm : len0 ≤ m := by rw [hmm]; split <;> omega
    simp only [Prod.mk.injEq] at hx
    have each : ∀ i, i < len0 → ∃ q : It × Value, W.cell? (a.add (i * 4)) = some (.int .i64 q.1.1) ∧ W.cell? (a.add (i * 4 + 1)) = some (.int .u8 (q.1.2.1.toNat : Int)) ∧ W.cell? (a.add (i * 4 + 2)) = some (.bool q.1.2.2.1) ∧ W.cell? (a.add (i * 4 + 3)) = some q.2 ∧ Rgs W W.heap.size q.2 q.1.2.2.2 := by
      intro i hil
      obtain ⟨cs', h1, h2⟩ := hi i (by omega)
      rw [cellsItem4] at h1
      obtain ⟨_, hlen, hcell⟩ := World.cells?_some h1
      obtain ⟨xs, k, _, hxy, _, hxl, hg⟩ := DataW.trod_struct he h2
      match cs', hlen with
      | [c0, c1, c2, c3], _ =>
        have hxl4 : xs.length = 4 := by simpa using hxl
        have g0 := hg 0 f0 rfl
        have g1 := hg 1 f1 rfl
        have g2 := hg 2 f2 rfl
        have g3 := hg 3 f3 rfl
        rw [o0, t0, cellsInt, List.getElem?_eq_getElem (by omega)] at g0
        rw [o1, t1, cellsU8, List.getElem?_eq_getElem (by omega)] at g1
        rw [o2, t2, cellsB, List.getElem?_eq_getElem (by omega)] at g2
        rw [o3, t3, cellsRgs, List.getElem?_eq_getElem (by omega)] at g3
        obtain ⟨kd, e0, _, _⟩ := DataW.trod_int Try.underlying3 g0
        obtain rfl : c0 = .int .i64 kd := by simpa using e0
        obtain ⟨b1, rfl⟩ := open_u8 g1
        obtain ⟨q2, e2, _⟩ := DataW.trod_bool Try.underlying4 g2
        obtain rfl : c2 = .bool q2 := by simpa using e2
        have hpl : ∀ y ∈ (xs[3]).2, y.block < W.heap.size := by
          intro y hy
          refine hlt y ?_
          rw [hx.2]
          refine List.mem_append_right _ (List.mem_flatMap.2 ⟨i, List.mem_range.2 (by omega), ?_⟩)
          simp only [Prod.mk.injEq] at hxy
          rw [hxy.2]
          exact List.mem_flatMap.2 ⟨xs[3], List.getElem_mem _, hy⟩
        obtain ⟨rs, hrs⟩ := open_ranges_cells (v := c3) (d := (xs[3]).1) (p := (xs[3]).2) (by simpa using g3) hpl
        have e0 := hcell 0 (by omega)
        have e1 := hcell 1 (by omega)
        have e2 := hcell 2 (by omega)
        have e3 := hcell 3 (by omega)
        rw [add_add] at e0 e1 e2 e3
        exact ⟨((kd, b1, q2, rs), c3), by simpa using e0, by simpa using e1, by simpa using e2, by simpa using e3, hrs⟩
    obtain ⟨C, hC⟩ := choose_lt (α := It × Value) each
    have hlen : ((List.range len0).map fun i => (C i).1).length = len0 := by simp
    have hul : ((List.range len0).map fun i => (C i).2).length = ((List.range len0).map fun i => (C i).1).length := by simp
    refine ⟨(List.range len0).map fun i => (C i).1, (List.range len0).map fun i => (C i).2, ⟨some a, cap0, by rw [hlen], by rw [hlen]; exact hl, hm, cellsIt_length _ _ hul, fun hn => ?_⟩, hul, fun k x hk => ?_⟩
    · have hpos : 0 < len0 := by omega
      obtain ⟨b, off, spot⟩ := a
      have hspot : spot = none := by simpa [Addr.add] using World.cell?_spot (hC 0 (by omega)).1
      subst hspot
      have hb : b < W.heap.size := by
        have := hlt (.cell b off) (by rw [hx.2]; exact List.mem_append_left _ (MemPlace.mem_row.2 ⟨0, by rw [cellsItem4]; omega, by simp⟩))
        exact this
      refine ⟨b, off, rfl, hb, fun j u hj => ?_⟩
      have hj2 : j < len0 * 4 := by
        have := (List.getElem?_eq_some_iff.1 hj).1
        rw [cellsIt_length _ _ hul, hlen] at this
        exact this
      have hC2 := hC (j / 4) (by omega)
      rw [add_plain0, add_plain0, add_plain0, add_plain0] at hC2
      have h4 := cellsIt_at ((List.range len0).map fun i => (C i).1) ((List.range len0).map fun i => (C i).2) hul (j / 4) (by rw [hlen]; omega)
      have hg : ((List.range len0).map fun i => (C i).1)[j / 4]'(by rw [hlen]; omega) = (C (j / 4)).1 := by simp
      have hg2 : ((List.range len0).map fun i => (C i).2)[j / 4]? = some (C (j / 4)).2 := by
        rw [List.getElem?_map, List.getElem?_range (by omega)]; rfl
      rw [hg, hg2] at h4
      have hm4 : j % 4 < 4 := Nat.mod_lt _ (by decide)
      have hcases : j = j / 4 * 4 ∨ j = j / 4 * 4 + 1 ∨ j = j / 4 * 4 + 2 ∨ j = j / 4 * 4 + 3 := by omega
      rcases hcases with e | e | e | e
      · rw [← e] at hC2 h4; rw [h4.1] at hj; injection hj with hj; rw [hC2.1, hj]
      · rw [← e] at hC2 h4; rw [h4.2.1] at hj; injection hj with hj; rw [hC2.2.1, hj]
      · rw [← e] at hC2 h4; rw [h4.2.2.1] at hj; injection hj with hj; rw [hC2.2.2.1, hj]
      · rw [← e] at hC2 h4; rw [h4.2.2.2] at hj; injection hj with hj; rw [hC2.2.2.2.1, hj]
    · have hk2 : k < len0 := by
        have := (List.getElem?_eq_some_iff.1 hk).1
        rw [hlen] at this
        exact this
      rw [List.getElem?_map, List.getElem?_range hk2] at hk
      injection hk with hk
      subst hk
      exact ⟨(C k).2, by rw [List.getElem?_map, List.getElem?_range hk2]; rfl, (hC k hk2).2.2.2.2⟩
set_option maxRecDepth 100000 in
/-- An argument that is a byte. -/
theorem open_byte {base : Nat} {v : Value} {d : DataW H} {p : List MemPlace} (hv : Value.okWide Try.prog W .any base 5 v)
    (h : DataW.Trod enc Try.prog W 0 (fun _ => true) true 5 v d p) : ∃ b : UInt8, v = .int .u8 (b.toNat : Int) := by
  obtain ⟨n, rfl, _, _, wk⟩ := open_int Try.underlying5 hv h
  have hk : 0 ≤ n ∧ n ≤ 255 := by
    have m1 : IntKind.u8.min = 0 := rfl
    have m2 : IntKind.u8.max = 255 := rfl
    simp only [Lit.wf, Bool.and_eq_true, decide_eq_true_eq] at wk
    omega
  refine ⟨UInt8.ofNat n.toNat, ?_⟩
  rw [UInt8.toNat_ofNat']
  congr 1
  omega
end
end Go.Proofs.Ytnioneknlgbhoaa
