/-
  What every row of this seat needs: a world for the witness, calls that are asked for, rows of numbers.
-/
import Derived.Test.YtcobfimafpfbpaaRows
import Derived.Test.YtcobfimafpfbpaaMkWords
import Derived.ProofKit
import Derived.OpenShut
import Derived.Deep.SlicePairs
import Derived.Deep.DeepHandedRow
namespace Go.Proofs.Ytcobfimafpfbpaa
open Go Go.ChangeShapes Go.WideShapes Go.ChangeAt Go.RowKit Go.Deep

theorem rowOwn : ownKnob Try.prog.godebug = none := by kernel_rfl
theorem rowOut : laidOutB Try.prog = true := by kernel_rfl
/-- A world for the witness: the settled one. -/
noncomputable def plainWorld (os : Os) : World := World.holding Try.prog os ⟨#[], #[], []⟩
theorem laid_none (m : World) : laidMet Try.prog [] m := ⟨[], rfl, List.nodup_nil, fun _ _ h => by cases h⟩

/-- A call that is asked for: which, a text, a number. -/
abbrev Opd := Int × ByteArray × Int
def opC (o : Opd) : List Value := [.int .i64 o.1, .string o.2.1, .int .i64 o.2.2]
def cellsO (l : List Opd) : List Value := l.flatMap opC
theorem cellsO_length (l : List Opd) : (cellsO l).length = l.length * 3 := by
  induction l with
  | nil => rfl
  | cons a l ih => simp only [cellsO, List.flatMap_cons, List.length_append, opC, List.length_cons, List.length_nil] at ih ⊢; omega
theorem cellsO_at (l : List Opd) (k : Nat) (h : k < l.length) : (cellsO l)[k * 3]? = some (.int .i64 l[k].1) ∧ (cellsO l)[k * 3 + 1]? = some (.string l[k].2.1) ∧ (cellsO l)[k * 3 + 2]? = some (.int .i64 l[k].2.2) := by
  induction l generalizing k with
  | nil => simp at h
  | cons a l ih =>
    cases k with
    | zero => exact ⟨rfl, rfl, rfl⟩
    | succ k =>
      have e : (k + 1) * 3 = k * 3 + 1 + 1 + 1 := by omega
      have := ih k (by simpa using h)
      simp only [cellsO, List.flatMap_cons, opC, e, List.cons_append, List.nil_append, List.getElem?_cons_succ, List.getElem_cons_succ] at this ⊢
      exact this
def In64 (n : Int) : Prop := -9223372036854775808 ≤ n ∧ n ≤ 9223372036854775807
/-- A slice reads as such calls; numbers of 64 bits. -/
def Ops (w : World) (v : Value) (l : List Opd) : Prop := Sl w w.heap.size 3 v l.length (cellsO l) ∧ ∀ o ∈ l, In64 o.1 ∧ In64 o.2.2
theorem Ops.form {w : World} {v : Value} {l : List Opd} (h : Ops w v l) : ∃ A c, v = .slice A l.length c ∧ l.length ≤ c ∧ c ≤ maxLen := by
  obtain ⟨⟨A, c, hv, h1, h2, _⟩, _⟩ := h
  exact ⟨A, c, hv, h1, h2⟩
theorem Ops.at_ {w w' : World} {A : Option Addr} {n c : Nat} {l : List Opd} (h : Ops w (.slice A n c) l) (hb : Below w.heap.size w w') (k : Nat) (hk : k < l.length) : ∃ b off : Nat, A = some ⟨b, off, none⟩ ∧ b < w'.heap.size ∧
    w'.cell? ⟨b, off + k * 3, none⟩ = some (.int .i64 l[k].1) ∧ w'.cell? ⟨b, off + k * 3 + 1, none⟩ = some (.string l[k].2.1) ∧ w'.cell? ⟨b, off + k * 3 + 2, none⟩ = some (.int .i64 l[k].2.2) := by
  obtain ⟨⟨A', c', hv, h1, h2, h3, h4⟩, _⟩ := h
  injection hv with e1 e2 e3
  subst e1 e2 e3
  obtain ⟨b, off, hA, hlt, hc⟩ := h4 (by omega)
  obtain ⟨c0, c1, c2⟩ := cellsO_at l k hk
  exact ⟨b, off, hA, Nat.lt_of_lt_of_le hlt hb.size, (hb.cell hlt).trans (hc _ _ c0), (hb.cell (p := ⟨b, off + k * 3 + 1, none⟩) hlt).trans (by rw [Nat.add_assoc]; exact hc _ _ c1), (hb.cell (p := ⟨b, off + k * 3 + 2, none⟩) hlt).trans (by rw [Nat.add_assoc]; exact hc _ _ c2)⟩

/-- A slice reads as numbers of 64 bits. -/
def Nums (w : World) (v : Value) (l : List Int) : Prop := Sl w w.heap.size 1 v l.length (l.map (Value.int .i64)) ∧ ∀ n ∈ l, In64 n
theorem Nums.form {w : World} {v : Value} {l : List Int} (h : Nums w v l) : ∃ A c, v = .slice A l.length c ∧ l.length ≤ c ∧ c ≤ maxLen := by
  obtain ⟨⟨A, c, hv, h1, h2, _⟩, _⟩ := h
  exact ⟨A, c, hv, h1, h2⟩
theorem Nums.at_ {w w' : World} {A : Option Addr} {n c : Nat} {l : List Int} (h : Nums w (.slice A n c) l) (hb : Below w.heap.size w w') (k : Nat) (hk : k < l.length) : ∃ b off : Nat, A = some ⟨b, off, none⟩ ∧ b < w.heap.size ∧ b < w'.heap.size ∧ w'.cell? ⟨b, off + k, none⟩ = some (.int .i64 l[k]) := by
  obtain ⟨⟨A', c', hv, h1, h2, h3, h4⟩, _⟩ := h
  injection hv with e1 e2 e3
  subst e1 e2 e3
  obtain ⟨b, off, hA, hlt, hc⟩ := h4 (by omega)
  exact ⟨b, off, hA, hlt, Nat.lt_of_lt_of_le hlt hb.size, (hb.cell hlt).trans (hc k _ (by rw [List.getElem?_map, List.getElem?_eq_getElem hk]; rfl))⟩

theorem cellsOpd : Try.prog.cellsOf 39 = 3 := by kernel_rfl
theorem cellsStr : Try.prog.cellsOf 9 = 1 := by kernel_rfl
theorem cellsInt : Try.prog.cellsOf 3 = 1 := by kernel_rfl
theorem opdFields : ∃ f0 f1 f2 : Field, Try.prog.underlying 39 = some (.struct #[f0, f1, f2]) ∧ (f0.offset = 0 ∧ f1.offset = 1 ∧ f2.offset = 2) ∧ f0.type = 3 ∧ f1.type = 9 ∧ f2.type = 3 :=
  ⟨_, _, _, Try.underlying39, ⟨rfl, rfl, rfl⟩, rfl, rfl, rfl⟩
section
variable {H : Type} {enc : TypeId × Value → H} {W : World}
set_option maxRecDepth 100000 in
theorem open_int_cell {fuel : Nat} {v : Value} {x : DataW H × List MemPlace} (h : DataW.trod enc Try.prog W 0 (fun _ => true) true fuel 3 [v] = some x) : ∃ n : Int, v = .int .i64 n ∧ In64 n := by
  obtain ⟨n, e1, _, wk⟩ := DataW.trod_int Try.underlying3 h
  refine ⟨n, by simpa using e1, ?_⟩
  have m1 : IntKind.i64.min = -9223372036854775808 := rfl
  have m2 : IntKind.i64.max = 9223372036854775807 := rfl
  simp only [Lit.wf, Bool.and_eq_true, decide_eq_true_eq] at wk
  unfold In64
  omega
instance : Inhabited Opd := ⟨(0, ⟨#[]⟩, 0)⟩
set_option maxRecDepth 100000 in
theorem open_ops {base : Nat} {v : Value} {d : DataW H} {p : List MemPlace} (hv : Value.okWide Try.prog W .any base 22 v)
    (h : DataW.Trod enc Try.prog W 0 (fun _ => true) true 22 v d p) (hlt : ∀ x ∈ p, x.block < W.heap.size) : ∃ l : List Opd, Ops W v l := by
  obtain ⟨f0, f1, f2, he, ⟨o0, o1, o2⟩, t0, t1, t2⟩ := opdFields
  obtain ⟨a0, len0, cap0, rfl⟩ := okWide_slice Try.underlying22 hv
  obtain ⟨fuel, hf⟩ := h
  rcases open_slice (cs := [.slice a0 len0 cap0]) Try.underlying22 (by simpa [Value.cells] using hf) with ⟨hcs, _⟩ | ⟨a, len, cap, m, n, D, Pl, hcs, _, hl, hm, hmm, hx, hi⟩
  · obtain ⟨rfl, rfl, rfl⟩ : a0 = none ∧ len0 = 0 ∧ cap0 = 0 := by simpa using hcs
    exact ⟨[], Sl.nil_ _ _ _, fun _ h => by cases h⟩
  · obtain ⟨rfl, rfl, rfl⟩ : a0 = some a ∧ len0 = len ∧ cap0 = cap := by simpa using hcs
    have hlm : len0 ≤ m := by rw [hmm]; split <;> omega
    simp only [Prod.mk.injEq] at hx
    have each : ∀ i, i < len0 → ∃ q : Opd, (W.cell? (a.add (i * 3)) = some (.int .i64 q.1) ∧ W.cell? (a.add (i * 3 + 1)) = some (.string q.2.1) ∧ W.cell? (a.add (i * 3 + 2)) = some (.int .i64 q.2.2)) ∧ In64 q.1 ∧ In64 q.2.2 := by
      intro i hil
      obtain ⟨cs', h1, h2⟩ := hi i (by omega)
      rw [cellsOpd] at h1
      obtain ⟨_, hlen, hcell⟩ := World.cells?_some h1
      obtain ⟨xs, k, _, hxy, _, hxl, hg⟩ := DataW.trod_struct he h2
      match cs', hlen with
      | [c0, c1, c2], _ =>
        have hxl4 : xs.length = 3 := by simpa using hxl
        have g0 := hg 0 f0 rfl
        have g1 := hg 1 f1 rfl
        have g2 := hg 2 f2 rfl
        rw [o0, t0, cellsInt, List.getElem?_eq_getElem (by omega)] at g0
        rw [o1, t1, cellsStr, List.getElem?_eq_getElem (by omega)] at g1
        rw [o2, t2, cellsInt, List.getElem?_eq_getElem (by omega)] at g2
        obtain ⟨n0, e0, b0⟩ := open_int_cell (v := c0) (by simpa using g0)
        obtain ⟨s1, e1, _, _⟩ := DataW.trod_string Try.underlying9 g1
        obtain ⟨n2, e2, b2⟩ := open_int_cell (v := c2) (by simpa using g2)
        subst e0 e2
        obtain rfl : c1 = .string s1 := by simpa using e1
        have e0 := hcell 0 (by omega)
        have e1 := hcell 1 (by omega)
        have e2 := hcell 2 (by omega)
        rw [add_add] at e0 e1 e2
        exact ⟨(n0, s1, n2), ⟨by simpa using e0, by simpa using e1, by simpa using e2⟩, b0, b2⟩
    obtain ⟨C, hC⟩ := choose_lt (α := Opd) each
    have hlen : ((List.range len0).map C).length = len0 := by simp
    refine ⟨(List.range len0).map C, ⟨some a, cap0, by rw [hlen], by rw [hlen]; exact hl, hm, by rw [cellsO_length], fun hn => ?_⟩, fun o ho => ?_⟩
    case refine_2 =>
      obtain ⟨i, hi, rfl⟩ := List.mem_map.1 ho
      exact (hC i (List.mem_range.1 hi)).2
    have hpos : 0 < len0 := by omega
    obtain ⟨b, off, spot⟩ := a
    have hspot : spot = none := by simpa [Addr.add] using World.cell?_spot (hC 0 (by omega)).1.1
    subst hspot
    have hb : b < W.heap.size := by
      have := hlt (.cell b off) (by rw [hx.2]; exact List.mem_append_left _ (MemPlace.mem_row.2 ⟨0, by rw [cellsOpd]; omega, by simp⟩))
      exact this
    refine ⟨b, off, rfl, hb, fun j u hj => ?_⟩
    have hj2 : j < len0 * 3 := by
      have := (List.getElem?_eq_some_iff.1 hj).1
      rw [cellsO_length, hlen] at this
      exact this
    have hC2 := (hC (j / 3) (by omega)).1
    rw [add_plain0, add_plain0, add_plain0] at hC2
    have hg : ∀ (hh : j / 3 < ((List.range len0).map C).length), ((List.range len0).map C)[j / 3] = C (j / 3) := fun hh => by simp
    obtain ⟨k0, k1, k2⟩ := cellsO_at ((List.range len0).map C) (j / 3) (by omega)
    rw [hg] at k0 k1 k2
    have hm4 : j % 3 = 0 ∨ j % 3 = 1 ∨ j % 3 = 2 := by omega
    rcases hm4 with e | e | e
    · have ej : j = j / 3 * 3 := by omega
      rw [← ej] at k0 hC2
      rw [k0] at hj
      injection hj with hj
      rw [← hj]; exact hC2.1
    · have ej : j = j / 3 * 3 + 1 := by omega
      rw [← ej] at k1 hC2
      rw [k1] at hj
      injection hj with hj
      rw [← hj]; exact hC2.2.1
    · have ej : j = j / 3 * 3 + 2 := by omega
      rw [← ej] at k2 hC2
      rw [k2] at hj
      injection hj with hj
      rw [← hj]; exact hC2.2.2
set_option maxRecDepth 100000 in
theorem open_nums {base : Nat} {v : Value} {d : DataW H} {p : List MemPlace} (hv : Value.okWide Try.prog W .any base 46 v)
    (h : DataW.Trod enc Try.prog W 0 (fun _ => true) true 46 v d p) (hlt : ∀ x ∈ p, x.block < W.heap.size) : ∃ l : List Int, Nums W v l := by
  obtain ⟨a0, len0, cap0, rfl⟩ := okWide_slice Try.underlying46 hv
  obtain ⟨fuel, hf⟩ := h
  rcases open_slice (cs := [.slice a0 len0 cap0]) Try.underlying46 (by simpa [Value.cells] using hf) with ⟨hcs, _⟩ | ⟨a, len, cap, m, n, D, Pl, hcs, _, hl, hm, hmm, hx, hi⟩
  · obtain ⟨rfl, rfl, rfl⟩ : a0 = none ∧ len0 = 0 ∧ cap0 = 0 := by simpa using hcs
    exact ⟨[], Sl.nil_ _ _ _, fun _ h => by cases h⟩
  · obtain ⟨rfl, rfl, rfl⟩ : a0 = some a ∧ len0 = len ∧ cap0 = cap := by simpa using hcs
    have hlm : len0 ≤ m := by rw [hmm]; split <;> omega
    simp only [Prod.mk.injEq] at hx
    have each : ∀ i, i < len0 → ∃ q : Int, W.cell? (a.add i) = some (.int .i64 q) ∧ In64 q := by
      intro i hil
      obtain ⟨cs', h1, h2⟩ := hi i (by omega)
      rw [cellsInt, Nat.mul_one] at h1
      obtain ⟨_, hlen, hcell⟩ := World.cells?_some h1
      match cs', hlen with
      | [c0], _ =>
        obtain ⟨n0, e0, b0⟩ := open_int_cell (v := c0) h2
        subst e0
        have e0 := hcell 0 (by omega)
        rw [add_add] at e0
        exact ⟨n0, by simpa using e0, b0⟩
    obtain ⟨C, hC⟩ := choose_lt (α := Int) each
    have hlen : ((List.range len0).map C).length = len0 := by simp
    refine ⟨(List.range len0).map C, ⟨some a, cap0, by rw [hlen], by rw [hlen]; exact hl, hm, by rw [List.length_map, Nat.mul_one], fun hn => ?_⟩, fun o ho => ?_⟩
    case refine_2 =>
      obtain ⟨i, hi, rfl⟩ := List.mem_map.1 ho
      exact (hC i (List.mem_range.1 hi)).2
    have hpos : 0 < len0 := by omega
    obtain ⟨b, off, spot⟩ := a
    have hspot : spot = none := by simpa [Addr.add] using World.cell?_spot (hC 0 (by omega)).1
    subst hspot
    have hb : b < W.heap.size := by
      have := hlt (.cell b off) (by rw [hx.2]; exact List.mem_append_left _ (MemPlace.mem_row.2 ⟨0, by rw [cellsInt]; omega, by simp⟩))
      exact this
    refine ⟨b, off, rfl, hb, fun j u hj => ?_⟩
    have hj2 : j < len0 := by
      have := (List.getElem?_eq_some_iff.1 hj).1
      rw [List.length_map, hlen] at this
      exact this
    have hC2 := (hC j hj2).1
    rw [add_plain0] at hC2
    rw [List.getElem?_map, List.getElem?_map, List.getElem?_range hj2] at hj
    simp only [Option.map_some, Option.some.injEq] at hj
    rw [← hj]; exact hC2
end
end Go.Proofs.Ytcobfimafpfbpaa
