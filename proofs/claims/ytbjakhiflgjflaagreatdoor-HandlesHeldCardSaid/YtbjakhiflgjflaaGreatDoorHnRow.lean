/-
  What every row of this seat needs: a world in which the listed tables lie, calls as an argument.
-/
import Derived.Test.YtbjakhiflgjflaaGreatDoorCards
import Derived.Test.YtbjakhiflgjflaaGreatDoorTie
import Derived.Test.YtbjakhiflgjflaaGreatDoorMkWords
import Derived.ProofKit
import Derived.OpenShut
import Derived.MakeChecks
import Derived.Stop.LaidErr
import Derived.Deep.SlicePairs
import Derived.Deep.DeepHandedRow
import Derived.Lib.LaidTab
namespace Go.Proofs.YtbjakhiflgjflaaGreatDoor
open Go Go.ChangeShapes Go.WideShapes Go.ChangeAt Go.RowKit Go.Deep

theorem rowOwn : ownKnob Tryz.prog.godebug = none := by kernel_rfl
theorem rowOut : laidOutB Tryz.prog = true := by kernel_rfl
/-- The data of the listed tables, as cells. -/
def litCell : DataW Unit → Value | .lit (.int k n) => .int k n | _ => .nilIface
def cellsOne : DataW Unit → List Value | .agg l => l.map litCell | _ => []
def cellsTwo : DataW Unit → List Value | .agg l => l.flatMap cellsOne | _ => []
def layCells (cs : List Value) : Obj → Obj
  | .cells _ t frozen => .cells cs.toArray t frozen
  | o => o
/-- A world for the witness: the settled one, the two tables holding what their texts lay. -/
noncomputable def laidWorld (os : Os) : World :=
  { World.holding Tryz.prog os ⟨#[], #[], []⟩ with heap := ((World.holding Tryz.prog os ⟨#[], #[], []⟩).heap.modify 1 (layCells (cellsOne Go.Pinned.utf8First))).modify 2 (layCells (cellsTwo Rows.laid_unicode_utf8_acceptRanges)) }
def rowLaid : List (String × DataW Unit) := [("unicode/utf8.acceptRanges", Rows.laid_unicode_utf8_acceptRanges), ("unicode/utf8.first", Rows.laid_unicode_utf8_first)]
set_option maxRecDepth 100000 in
theorem laid_met (os : Os) (args : Array Value) : laidMet Tryz.prog rowLaid ((laidWorld os).forCall (fun _ _ => 0) ⟨#[], args, []⟩).memory :=
  laidMet_of_run' 8 (by kernel_rfl) (by kernel_rfl)

/-- A call that is asked for: which, of which handle, of which node, a number, how a file is opened, bytes. -/
abbrev Opd := Int × Int × Int × Int × Bool × Bool × Bool × ByteArray
def opC (q : Opd) : List Value := [.int .i64 q.1, .int .i64 q.2.1, .int .i64 q.2.2.1, .int .i64 q.2.2.2.1, .bool q.2.2.2.2.1, .bool q.2.2.2.2.2.1, .bool q.2.2.2.2.2.2.1, .string q.2.2.2.2.2.2.2]
def cellsO (l : List Opd) : List Value := l.flatMap opC
theorem cellsO_length (l : List Opd) : (cellsO l).length = l.length * 8 := by
  induction l with
  | nil => rfl
  | cons a l ih => simp only [cellsO, List.flatMap_cons, List.length_append, opC, List.length_cons, List.length_nil] at ih ⊢; omega
theorem cellsO_at (l : List Opd) (k : Nat) (h : k < l.length) : (cellsO l)[k * 8]? = some (.int .i64 l[k].1) ∧ (cellsO l)[k * 8 + 1]? = some (.int .i64 l[k].2.1) ∧ (cellsO l)[k * 8 + 2]? = some (.int .i64 l[k].2.2.1) ∧ (cellsO l)[k * 8 + 3]? = some (.int .i64 l[k].2.2.2.1) ∧ (cellsO l)[k * 8 + 4]? = some (.bool l[k].2.2.2.2.1) ∧ (cellsO l)[k * 8 + 5]? = some (.bool l[k].2.2.2.2.2.1) ∧ (cellsO l)[k * 8 + 6]? = some (.bool l[k].2.2.2.2.2.2.1) ∧ (cellsO l)[k * 8 + 7]? = some (.string l[k].2.2.2.2.2.2.2) := by
  induction l generalizing k with
  | nil => simp at h
  | cons a l ih =>
    cases k with
    | zero => exact ⟨rfl, rfl, rfl, rfl, rfl, rfl, rfl, rfl⟩
    | succ k =>
      have e : (k + 1) * 8 = k * 8 + 1 + 1 + 1 + 1 + 1 + 1 + 1 + 1 := by omega
      have := ih k (by simpa using h)
      simp only [cellsO, List.flatMap_cons, opC, e, List.cons_append, List.nil_append, List.getElem?_cons_succ, List.getElem_cons_succ] at this ⊢
      exact this
def In64 (n : Int) : Prop := -9223372036854775808 ≤ n ∧ n ≤ 9223372036854775807
def In4 (q : Opd) : Prop := In64 q.1 ∧ In64 q.2.1 ∧ In64 q.2.2.1 ∧ In64 q.2.2.2.1
/-- A slice reads as such calls; numbers of 64 bits. -/
def Ops (w : World) (v : Value) (l : List Opd) : Prop := Sl w w.heap.size 8 v l.length (cellsO l) ∧ ∀ o ∈ l, In4 o
theorem Ops.form {w : World} {v : Value} {l : List Opd} (h : Ops w v l) : ∃ A c, v = .slice A l.length c ∧ l.length ≤ c ∧ c ≤ maxLen := by
  obtain ⟨⟨A, c, hv, h1, h2, _⟩, _⟩ := h
  exact ⟨A, c, hv, h1, h2⟩
theorem Ops.at_ {w : World} {A : Option Addr} {n c : Nat} {l : List Opd} (h : Ops w (.slice A n c) l) (k : Nat) (hk : k < l.length) : ∃ b off : Nat, A = some ⟨b, off, none⟩ ∧ b < w.heap.size ∧
    w.cell? ⟨b, off + k * 8, none⟩ = some (.int .i64 l[k].1) ∧ w.cell? ⟨b, off + k * 8 + 1, none⟩ = some (.int .i64 l[k].2.1) ∧ w.cell? ⟨b, off + k * 8 + 2, none⟩ = some (.int .i64 l[k].2.2.1) ∧ w.cell? ⟨b, off + k * 8 + 3, none⟩ = some (.int .i64 l[k].2.2.2.1) ∧ w.cell? ⟨b, off + k * 8 + 4, none⟩ = some (.bool l[k].2.2.2.2.1) ∧ w.cell? ⟨b, off + k * 8 + 5, none⟩ = some (.bool l[k].2.2.2.2.2.1) ∧ w.cell? ⟨b, off + k * 8 + 6, none⟩ = some (.bool l[k].2.2.2.2.2.2.1) ∧ w.cell? ⟨b, off + k * 8 + 7, none⟩ = some (.string l[k].2.2.2.2.2.2.2) := by
  obtain ⟨⟨A', c', hv, h1, h2, h3, h4⟩, _⟩ := h
  injection hv with e1 e2 e3
  subst e1 e2 e3
  obtain ⟨b, off, hA, hlt, hc⟩ := h4 (by omega)
  obtain ⟨c0, c1, c2, c3, c4, c5, c6, c7⟩ := cellsO_at l k hk
  exact ⟨b, off, hA, hlt, hc _ _ c0, by rw [Nat.add_assoc]; exact hc _ _ c1, by rw [Nat.add_assoc]; exact hc _ _ c2, by rw [Nat.add_assoc]; exact hc _ _ c3, by rw [Nat.add_assoc]; exact hc _ _ c4, by rw [Nat.add_assoc]; exact hc _ _ c5, by rw [Nat.add_assoc]; exact hc _ _ c6, by rw [Nat.add_assoc]; exact hc _ _ c7⟩
/-- A call's cells, whatever is made behind. -/
theorem ops_keep {w wr : World} {A : Option Addr} {n c : Nat} {l : List Opd} (h : Ops w (.slice A n c) l) (hm : ∀ b, b < w.heap.size → wr.heap[b]? = w.heap[b]?) (k : Nat) (hk : k < l.length) : ∃ b off : Nat, A = some ⟨b, off, none⟩ ∧ b < w.heap.size ∧
    wr.cell? ⟨b, off + k * 8, none⟩ = some (.int .i64 l[k].1) ∧ wr.cell? ⟨b, off + k * 8 + 1, none⟩ = some (.int .i64 l[k].2.1) ∧ wr.cell? ⟨b, off + k * 8 + 2, none⟩ = some (.int .i64 l[k].2.2.1) ∧ wr.cell? ⟨b, off + k * 8 + 3, none⟩ = some (.int .i64 l[k].2.2.2.1) ∧ wr.cell? ⟨b, off + k * 8 + 4, none⟩ = some (.bool l[k].2.2.2.2.1) ∧ wr.cell? ⟨b, off + k * 8 + 5, none⟩ = some (.bool l[k].2.2.2.2.2.1) ∧ wr.cell? ⟨b, off + k * 8 + 6, none⟩ = some (.bool l[k].2.2.2.2.2.2.1) ∧ wr.cell? ⟨b, off + k * 8 + 7, none⟩ = some (.string l[k].2.2.2.2.2.2.2) := by
  obtain ⟨b, off, hA, hb, c0, c1, c2, c3, c4, c5, c6, c7⟩ := h.at_ k hk
  have hk := hm b hb
  exact ⟨b, off, hA, hb, (World.cell?_of_block (a := ⟨b, off + k * 8, none⟩) hk).trans c0, (World.cell?_of_block (a := ⟨b, off + k * 8 + 1, none⟩) hk).trans c1, (World.cell?_of_block (a := ⟨b, off + k * 8 + 2, none⟩) hk).trans c2, (World.cell?_of_block (a := ⟨b, off + k * 8 + 3, none⟩) hk).trans c3, (World.cell?_of_block (a := ⟨b, off + k * 8 + 4, none⟩) hk).trans c4, (World.cell?_of_block (a := ⟨b, off + k * 8 + 5, none⟩) hk).trans c5, (World.cell?_of_block (a := ⟨b, off + k * 8 + 6, none⟩) hk).trans c6, (World.cell?_of_block (a := ⟨b, off + k * 8 + 7, none⟩) hk).trans c7⟩

theorem cellsOpd : Tryz.prog.cellsOf 40 = 8 := by kernel_rfl
theorem cellsStr : Tryz.prog.cellsOf 9 = 1 := by kernel_rfl
theorem cellsInt : Tryz.prog.cellsOf 3 = 1 := by kernel_rfl
theorem cellsBool : Tryz.prog.cellsOf 4 = 1 := by kernel_rfl
theorem cellsMode : Tryz.prog.cellsOf 38 = 3 := by kernel_rfl
theorem opdFields : ∃ f0 f1 f2 f3 f4 f5 : Field, Tryz.prog.underlying 40 = some (.struct #[f0, f1, f2, f3, f4, f5]) ∧ (f0.offset = 0 ∧ f1.offset = 1 ∧ f2.offset = 2 ∧ f3.offset = 3 ∧ f4.offset = 4 ∧ f5.offset = 7) ∧ f0.type = 3 ∧ f1.type = 3 ∧ f2.type = 3 ∧ f3.type = 3 ∧ f4.type = 38 ∧ f5.type = 9 :=
  ⟨_, _, _, _, _, _, Tryz.underlying40, ⟨rfl, rfl, rfl, rfl, rfl, rfl⟩, rfl, rfl, rfl, rfl, rfl, rfl⟩
theorem modeFields : ∃ f0 f1 f2 : Field, Tryz.prog.underlying 38 = some (.struct #[f0, f1, f2]) ∧ (f0.offset = 0 ∧ f1.offset = 1 ∧ f2.offset = 2) ∧ f0.type = 4 ∧ f1.type = 4 ∧ f2.type = 4 :=
  ⟨_, _, _, Tryz.underlying38, ⟨rfl, rfl, rfl⟩, rfl, rfl, rfl⟩
section
variable {H : Type} {enc : TypeId × Value → H} {W : World}
set_option maxRecDepth 100000 in
theorem open_int_cell {fuel : Nat} {v : Value} {x : DataW H × List MemPlace} (h : DataW.trod enc Tryz.prog W 0 (fun _ => true) true fuel 3 [v] = some x) : ∃ n : Int, v = .int .i64 n ∧ In64 n := by
  obtain ⟨n, e1, _, wk⟩ := DataW.trod_int Tryz.underlying3 h
  refine ⟨n, by simpa using e1, ?_⟩
  have m1 : IntKind.i64.min = -9223372036854775808 := rfl
  have m2 : IntKind.i64.max = 9223372036854775807 := rfl
  simp only [Lit.wf, Bool.and_eq_true, decide_eq_true_eq] at wk
  unfold In64
  omega
set_option maxRecDepth 100000 in
theorem open_mode {fuel : Nat} {u v t : Value} {x : DataW H × List MemPlace} (h : DataW.trod enc Tryz.prog W 0 (fun _ => true) true fuel 38 [u, v, t] = some x) : ∃ a b c : Bool, u = .bool a ∧ v = .bool b ∧ t = .bool c := by
  obtain ⟨f0, f1, f2, he, ⟨o0, o1, o2⟩, t0, t1, t2⟩ := modeFields
  obtain ⟨xs, k, _, hxy, _, hxl, hg⟩ := DataW.trod_struct he h
  have hxl3 : xs.length = 3 := by simpa using hxl
  have g0 := hg 0 f0 rfl
  have g1 := hg 1 f1 rfl
  have g2 := hg 2 f2 rfl
  rw [o0, t0, cellsBool, List.getElem?_eq_getElem (by omega)] at g0
  rw [o1, t1, cellsBool, List.getElem?_eq_getElem (by omega)] at g1
  rw [o2, t2, cellsBool, List.getElem?_eq_getElem (by omega)] at g2
  obtain ⟨a, e0, _⟩ := DataW.trod_bool Tryz.underlying4 g0
  obtain ⟨b, e1, _⟩ := DataW.trod_bool Tryz.underlying4 g1
  obtain ⟨c, e2, _⟩ := DataW.trod_bool Tryz.underlying4 g2
  exact ⟨a, b, c, by simpa using e0, by simpa using e1, by simpa using e2⟩
instance : Inhabited Opd := ⟨(0, 0, 0, 0, false, false, false, ⟨#[]⟩)⟩
set_option maxRecDepth 100000 in
theorem open_ops {base : Nat} {v : Value} {d : DataW H} {p : List MemPlace} (hv : Value.okWide Tryz.prog W .any base 22 v)
    (h : DataW.Trod enc Tryz.prog W 0 (fun _ => true) true 22 v d p) (hlt : ∀ x ∈ p, x.block < W.heap.size) : ∃ l : List Opd, Ops W v l := by
  obtain ⟨f0, f1, f2, f3, f4, f5, he, ⟨o0, o1, o2, o3, o4, o5⟩, t0, t1, t2, t3, t4, t5⟩ := opdFields
  obtain ⟨a0, len0, cap0, rfl⟩ := okWide_slice Tryz.underlying22 hv
  obtain ⟨fuel, hf⟩ := h
  rcases open_slice (cs := [.slice a0 len0 cap0]) Tryz.underlying22 (by simpa [Value.cells] using hf) with ⟨hcs, _⟩ | ⟨a, len, cap, m, n, D, Pl, hcs, _, hl, hm, hmm, hx, hi⟩
  · obtain ⟨rfl, rfl, rfl⟩ : a0 = none ∧ len0 = 0 ∧ cap0 = 0 := by simpa using hcs
    exact ⟨[], Sl.nil_ _ _ _, fun _ h => by cases h⟩
  · obtain ⟨rfl, rfl, rfl⟩ : a0 = some a ∧ len0 = len ∧ cap0 = cap := by simpa using hcs
    have hlm : len0 ≤ m := by rw [hmm]; split <;> omega
    simp only [Prod.mk.injEq] at hx
    have each : ∀ i, i < len0 → ∃ q : Opd, (W.cell? (a.add (i * 8)) = some (.int .i64 q.1) ∧ W.cell? (a.add (i * 8 + 1)) = some (.int .i64 q.2.1) ∧ W.cell? (a.add (i * 8 + 2)) = some (.int .i64 q.2.2.1) ∧ W.cell? (a.add (i * 8 + 3)) = some (.int .i64 q.2.2.2.1) ∧ W.cell? (a.add (i * 8 + 4)) = some (.bool q.2.2.2.2.1) ∧ W.cell? (a.add (i * 8 + 5)) = some (.bool q.2.2.2.2.2.1) ∧ W.cell? (a.add (i * 8 + 6)) = some (.bool q.2.2.2.2.2.2.1) ∧ W.cell? (a.add (i * 8 + 7)) = some (.string q.2.2.2.2.2.2.2)) ∧ In4 q := by
      intro i hil
      obtain ⟨cs', h1, h2⟩ := hi i (by omega)
      rw [cellsOpd] at h1
      obtain ⟨_, hlen, hcell⟩ := World.cells?_some h1
      obtain ⟨xs, k, _, hxy, _, hxl, hg⟩ := DataW.trod_struct he h2
      match cs', hlen with
      | [c0, c1, c2, c3, c4, c5, c6, c7], _ =>
        have hxl6 : xs.length = 6 := by simpa using hxl
        have g0 := hg 0 f0 rfl
        rw [o0, t0, cellsInt, List.getElem?_eq_getElem (by omega)] at g0
        have g1 := hg 1 f1 rfl
        rw [o1, t1, cellsInt, List.getElem?_eq_getElem (by omega)] at g1
        have g2 := hg 2 f2 rfl
        rw [o2, t2, cellsInt, List.getElem?_eq_getElem (by omega)] at g2
        have g3 := hg 3 f3 rfl
        rw [o3, t3, cellsInt, List.getElem?_eq_getElem (by omega)] at g3
        have g4 := hg 4 f4 rfl
        rw [o4, t4, cellsMode, List.getElem?_eq_getElem (by omega)] at g4
        have g5 := hg 5 f5 rfl
        rw [o5, t5, cellsStr, List.getElem?_eq_getElem (by omega)] at g5
        obtain ⟨n0, e0, b0⟩ := open_int_cell (v := c0) (by simpa using g0)
        obtain ⟨n1, e1, b1⟩ := open_int_cell (v := c1) (by simpa using g1)
        obtain ⟨n2, e2, b2⟩ := open_int_cell (v := c2) (by simpa using g2)
        obtain ⟨n3, e3, b3⟩ := open_int_cell (v := c3) (by simpa using g3)
        obtain ⟨m0, m1, m2, e4, e5, e6⟩ := open_mode (u := c4) (v := c5) (t := c6) (by simpa using g4)
        obtain ⟨s7, e7, _, _⟩ := DataW.trod_string Tryz.underlying9 g5
        subst e0 e1 e2 e3 e4 e5 e6
        obtain rfl : c7 = .string s7 := by simpa using e7
        have e0 := hcell 0 (by omega)
        have e1 := hcell 1 (by omega)
        have e2 := hcell 2 (by omega)
        have e3 := hcell 3 (by omega)
        have e4 := hcell 4 (by omega)
        have e5 := hcell 5 (by omega)
        have e6 := hcell 6 (by omega)
        have e7 := hcell 7 (by omega)
        rw [add_add] at e0 e1 e2 e3 e4 e5 e6 e7
        exact ⟨(n0, n1, n2, n3, m0, m1, m2, s7), ⟨by simpa using e0, by simpa using e1, by simpa using e2, by simpa using e3, by simpa using e4, by simpa using e5, by simpa using e6, by simpa using e7⟩, b0, b1, b2, b3⟩
    obtain ⟨C, hC⟩ := choose_lt (α := Opd) each
    have hlen : ((List.range len0).map C).length = len0 := by simp
    refine ⟨(List.range len0).map C, ⟨some a, cap0, by rw [hlen], by rw [hlen]; exact hl, hm, by rw [cellsO_length], fun hn => ?_⟩, fun o ho => ?_⟩
    case refine_2 =>
      obtain ⟨i, hi, rfl⟩ := List.mem_map.1 ho
      exact (hC i (List.mem_range.1 hi)).2
    have hpos : 0 < len0 := by omega
    obtain ⟨b, off, spot⟩ := a
    have hspot : spot = none := by simpa [Addr.add] using World.cell?_spot (hC 0 (by omega)).1.1
    subst hspot
    have hb : b < W.heap.size := by
      have := hlt (.cell b off) (by rw [hx.2]; exact List.mem_append_left _ (MemPlace.mem_row.2 ⟨0, by rw [cellsOpd]; omega, by simp⟩))
      exact this
    refine ⟨b, off, rfl, hb, fun j u hj => ?_⟩
    have hj2 : j < len0 * 8 := by
      have := (List.getElem?_eq_some_iff.1 hj).1
      rw [cellsO_length, hlen] at this
      exact this
    have hC2 := (hC (j / 8) (by omega)).1
    rw [add_plain0, add_plain0, add_plain0, add_plain0, add_plain0, add_plain0, add_plain0, add_plain0] at hC2
    have hg : ∀ (hh : j / 8 < ((List.range len0).map C).length), ((List.range len0).map C)[j / 8] = C (j / 8) := fun hh => by simp
    obtain ⟨k0, k1, k2, k3, k4, k5, k6, k7⟩ := cellsO_at ((List.range len0).map C) (j / 8) (by omega)
    rw [hg] at k0 k1 k2 k3 k4 k5 k6 k7
    have hm8 : j % 8 = 0 ∨ j % 8 = 1 ∨ j % 8 = 2 ∨ j % 8 = 3 ∨ j % 8 = 4 ∨ j % 8 = 5 ∨ j % 8 = 6 ∨ j % 8 = 7 := by omega
    rcases hm8 with e | e | e | e | e | e | e | e
    · have ej : j = j / 8 * 8 := by omega
      rw [← ej] at k0 hC2
      rw [k0] at hj
      injection hj with hj
      rw [← hj]; exact hC2.1
    · have ej : j = j / 8 * 8 + 1 := by omega
      rw [← ej] at k1 hC2
      rw [k1] at hj
      injection hj with hj
      rw [← hj]; exact hC2.2.1
    · have ej : j = j / 8 * 8 + 2 := by omega
      rw [← ej] at k2 hC2
      rw [k2] at hj
      injection hj with hj
      rw [← hj]; exact hC2.2.2.1
    · have ej : j = j / 8 * 8 + 3 := by omega
      rw [← ej] at k3 hC2
      rw [k3] at hj
      injection hj with hj
      rw [← hj]; exact hC2.2.2.2.1
    · have ej : j = j / 8 * 8 + 4 := by omega
      rw [← ej] at k4 hC2
      rw [k4] at hj
      injection hj with hj
      rw [← hj]; exact hC2.2.2.2.2.1
    · have ej : j = j / 8 * 8 + 5 := by omega
      rw [← ej] at k5 hC2
      rw [k5] at hj
      injection hj with hj
      rw [← hj]; exact hC2.2.2.2.2.2.1
    · have ej : j = j / 8 * 8 + 6 := by omega
      rw [← ej] at k6 hC2
      rw [k6] at hj
      injection hj with hj
      rw [← hj]; exact hC2.2.2.2.2.2.2.1
    · have ej : j = j / 8 * 8 + 7 := by omega
      rw [← ej] at k7 hC2
      rw [k7] at hj
      injection hj with hj
      rw [← hj]; exact hC2.2.2.2.2.2.2.2
end
end Go.Proofs.YtbjakhiflgjflaaGreatDoor
