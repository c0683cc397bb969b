/-
  A part. Conditions: each theorem's own.
-/
import Derived.WalkKit
import Derived.WalkSpells
import Derived.WalkLawsBesides
import Derived.Below
import Derived.Lib.Hide
import Derived.Laws.OwnMore
import Derived.Deep.Draws
import Derived.Outline
import Derived.Test.YtfofpphnglhopaaGreatDoorCards
import Derived.Test.YtfofpphnglhopaaGreatDoorTie
import Derived.ProofKit
import Derived.OpenShut
import Derived.MakeChecks
import Derived.Stop.LaidErr
import Derived.Deep.SlicePairs
import Derived.Deep.DeepHandedRow
import Derived.Lib.LaidTab
import Derived.Deep.AppendSrc
import Derived.Lib.AppendZerosOnto
import Derived.Laws.CopyRow
import Derived.Test.YtfofpphnglhopaaGreatDoorProg
import Derived.OwnWalk
import Derived.Maps.OwnSet
import Derived.Maps.OwnOps
set_option maxHeartbeats 8000000
set_option maxRecDepth 100000
namespace Go.Proofs.YtfofpphnglhopaaGreatDoor
open Go Go.RowKit
def Sl (w : World) (B size : Nat) (v : Value) (n : Nat) (xs : List Value) : Prop :=
  ∃ (A : Option Addr) (c : Nat), v = .slice A n c ∧ n ≤ c ∧ c ≤ maxLen ∧ xs.length = n * size ∧
    (0 < n → ∃ b off : Nat, A = some ⟨b, off, none⟩ ∧ b < B ∧ ∀ (j : Nat) (u : Value), xs[j]? = some u → w.cell? ⟨b, off + j, none⟩ = some u)
theorem add_plain0 (b off k : Nat) : (⟨b, off, none⟩ : Addr).add k = ⟨b, off + k, none⟩ := by
  unfold Addr.add; split <;> simp_all
section
variable {w w' : World} {B B' size n : Nat} {v : Value} {xs : List Value}
theorem Sl.nil_ (w : World) (B size : Nat) : Sl w B size (.slice none 0 0) 0 [] := ⟨none, 0, rfl, Nat.le_refl _, Nat.zero_le _, by simp, fun h => absurd h (by omega)⟩
end
abbrev Ch := UInt8 × Bool
def cc (c : Ch) : List Value := [.int .u8 (c.1.toNat : Int), .bool c.2]
section
variable {w w' : World} {B B' : Nat} {v : Value} {l : List Ch}
end
end Go.Proofs.YtfofpphnglhopaaGreatDoor
namespace Go.Proofs.YtfofpphnglhopaaGreatDoor
open Go Go.ChangeShapes Go.WideShapes Go.ChangeAt Go.RowKit Go.Deep
theorem rowOwn : ownKnob Tryz.prog.godebug = none := by kernel_rfl
theorem rowOut : laidOutB Tryz.prog = true := by kernel_rfl
def litCell : DataW Unit → Value | .lit (.int k n) => .int k n | _ => .nilIface
def cellsOne : DataW Unit → List Value | .agg l => l.map litCell | _ => []
def cellsTwo : DataW Unit → List Value | .agg l => l.flatMap cellsOne | _ => []
def layCells (cs : List Value) : Obj → Obj
  | .cells _ t frozen => .cells cs.toArray t frozen
  | o => o
noncomputable def laidWorld (os : Os) : World :=
  { World.holding Tryz.prog os ⟨#[], #[], []⟩ with heap := ((World.holding Tryz.prog os ⟨#[], #[], []⟩).heap.modify 1 (layCells (cellsOne Go.Pinned.utf8First))).modify 2 (layCells (cellsTwo Rows.laid_unicode_utf8_acceptRanges)) }
def rowLaid : List (String × DataW Unit) := [("unicode/utf8.acceptRanges", Rows.laid_unicode_utf8_acceptRanges), ("unicode/utf8.first", Rows.laid_unicode_utf8_first)]
theorem laid_met (os : Os) (args : Array Value) : laidMet Tryz.prog rowLaid ((laidWorld os).forCall (fun _ _ => 0) ⟨#[], args, []⟩).memory :=
  laidMet_of_run' 8 (by kernel_rfl) (by kernel_rfl)
abbrev Opd := Int × Int × Int × Int × Int × ByteArray × ByteArray
def opC (q : Opd) : List Value := [.int .i64 q.1, .int .i64 q.2.1, .int .i64 q.2.2.1, .int .i64 q.2.2.2.1, .int .i64 q.2.2.2.2.1, .string q.2.2.2.2.2.1, .string q.2.2.2.2.2.2]
def cellsO (l : List Opd) : List Value := l.flatMap opC
theorem cellsO_length (l : List Opd) : (cellsO l).length = l.length * 7 := by
  induction l with
  | nil => rfl
  | cons a l ih => simp only [cellsO, List.flatMap_cons, List.length_append, opC, List.length_cons, List.length_nil] at ih ⊢; omega
theorem cellsO_at (l : List Opd) (k : Nat) (h : k < l.length) : (cellsO l)[k * 7]? = some (.int .i64 l[k].1) ∧ (cellsO l)[k * 7 + 1]? = some (.int .i64 l[k].2.1) ∧ (cellsO l)[k * 7 + 2]? = some (.int .i64 l[k].2.2.1) ∧ (cellsO l)[k * 7 + 3]? = some (.int .i64 l[k].2.2.2.1) ∧ (cellsO l)[k * 7 + 4]? = some (.int .i64 l[k].2.2.2.2.1) ∧ (cellsO l)[k * 7 + 5]? = some (.string l[k].2.2.2.2.2.1) ∧ (cellsO l)[k * 7 + 6]? = some (.string l[k].2.2.2.2.2.2) := by
  induction l generalizing k with
  | nil => simp at h
  | cons a l ih =>
    cases k with
    | zero => exact ⟨rfl, rfl, rfl, rfl, rfl, rfl, rfl⟩
    | succ k =>
      have e : (k + 1) * 7 = k * 7 + 1 + 1 + 1 + 1 + 1 + 1 + 1 := by omega
      have := ih k (by simpa using h)
      simp only [cellsO, List.flatMap_cons, opC, e, List.cons_append, List.nil_append, List.getElem?_cons_succ, List.getElem_cons_succ] at this ⊢
      exact this
def In64 (n : Int) : Prop := -9223372036854775808 ≤ n ∧ n ≤ 9223372036854775807
def In4 (q : Opd) : Prop := In64 q.1 ∧ In64 q.2.1 ∧ In64 q.2.2.1 ∧ In64 q.2.2.2.1 ∧ In64 q.2.2.2.2.1
def Ops (w : World) (v : Value) (l : List Opd) : Prop := Sl w w.heap.size 7 v l.length (cellsO l) ∧ ∀ o ∈ l, In4 o
theorem Ops.form {w : World} {v : Value} {l : List Opd} (h : Ops w v l) : ∃ A c, v = .slice A l.length c ∧ l.length ≤ c ∧ c ≤ maxLen := by
  obtain ⟨⟨A, c, hv, h1, h2, _⟩, _⟩ := h
  exact ⟨A, c, hv, h1, h2⟩
theorem Ops.at_ {w : World} {A : Option Addr} {n c : Nat} {l : List Opd} (h : Ops w (.slice A n c) l) (k : Nat) (hk : k < l.length) : ∃ b off : Nat, A = some ⟨b, off, none⟩ ∧ b < w.heap.size ∧
    w.cell? ⟨b, off + k * 7, none⟩ = some (.int .i64 l[k].1) ∧ w.cell? ⟨b, off + k * 7 + 1, none⟩ = some (.int .i64 l[k].2.1) ∧ w.cell? ⟨b, off + k * 7 + 2, none⟩ = some (.int .i64 l[k].2.2.1) ∧ w.cell? ⟨b, off + k * 7 + 3, none⟩ = some (.int .i64 l[k].2.2.2.1) ∧ w.cell? ⟨b, off + k * 7 + 4, none⟩ = some (.int .i64 l[k].2.2.2.2.1) ∧ w.cell? ⟨b, off + k * 7 + 5, none⟩ = some (.string l[k].2.2.2.2.2.1) ∧ w.cell? ⟨b, off + k * 7 + 6, none⟩ = some (.string l[k].2.2.2.2.2.2) := by
  obtain ⟨⟨A', c', hv, h1, h2, h3, h4⟩, _⟩ := h
  injection hv with e1 e2 e3
  subst e1 e2 e3
  obtain ⟨b, off, hA, hlt, hc⟩ := h4 (by omega)
  obtain ⟨c0, c1, c2, c3, c4, c5, c6⟩ := cellsO_at l k hk
  exact ⟨b, off, hA, hlt, hc _ _ c0, by rw [Nat.add_assoc]; exact hc _ _ c1, by rw [Nat.add_assoc]; exact hc _ _ c2, by rw [Nat.add_assoc]; exact hc _ _ c3, by rw [Nat.add_assoc]; exact hc _ _ c4, by rw [Nat.add_assoc]; exact hc _ _ c5, by rw [Nat.add_assoc]; exact hc _ _ c6⟩
theorem ops_keep {w wr : World} {A : Option Addr} {n c : Nat} {l : List Opd} (h : Ops w (.slice A n c) l) (hm : ∀ b, b < w.heap.size → wr.heap[b]? = w.heap[b]?) (k : Nat) (hk : k < l.length) : ∃ b off : Nat, A = some ⟨b, off, none⟩ ∧ b < w.heap.size ∧
    wr.cell? ⟨b, off + k * 7, none⟩ = some (.int .i64 l[k].1) ∧ wr.cell? ⟨b, off + k * 7 + 1, none⟩ = some (.int .i64 l[k].2.1) ∧ wr.cell? ⟨b, off + k * 7 + 2, none⟩ = some (.int .i64 l[k].2.2.1) ∧ wr.cell? ⟨b, off + k * 7 + 3, none⟩ = some (.int .i64 l[k].2.2.2.1) ∧ wr.cell? ⟨b, off + k * 7 + 4, none⟩ = some (.int .i64 l[k].2.2.2.2.1) ∧ wr.cell? ⟨b, off + k * 7 + 5, none⟩ = some (.string l[k].2.2.2.2.2.1) ∧ wr.cell? ⟨b, off + k * 7 + 6, none⟩ = some (.string l[k].2.2.2.2.2.2) := by
  obtain ⟨b, off, hA, hb, c0, c1, c2, c3, c4, c5, c6⟩ := h.at_ k hk
  have hk := hm b hb
  exact ⟨b, off, hA, hb, (World.cell?_of_block (a := ⟨b, off + k * 7, none⟩) hk).trans c0, (World.cell?_of_block (a := ⟨b, off + k * 7 + 1, none⟩) hk).trans c1, (World.cell?_of_block (a := ⟨b, off + k * 7 + 2, none⟩) hk).trans c2, (World.cell?_of_block (a := ⟨b, off + k * 7 + 3, none⟩) hk).trans c3, (World.cell?_of_block (a := ⟨b, off + k * 7 + 4, none⟩) hk).trans c4, (World.cell?_of_block (a := ⟨b, off + k * 7 + 5, none⟩) hk).trans c5, (World.cell?_of_block (a := ⟨b, off + k * 7 + 6, none⟩) hk).trans c6⟩
theorem cellsOpd : Tryz.prog.cellsOf 53 = 7 := by kernel_rfl
theorem cellsStr : Tryz.prog.cellsOf 9 = 1 := by kernel_rfl
theorem cellsInt : Tryz.prog.cellsOf 3 = 1 := by kernel_rfl
theorem opdFields : ∃ f0 f1 f2 f3 f4 f5 f6 : Field, Tryz.prog.underlying 53 = some (.struct #[f0, f1, f2, f3, f4, f5, f6]) ∧ (f0.offset = 0 ∧ f1.offset = 1 ∧ f2.offset = 2 ∧ f3.offset = 3 ∧ f4.offset = 4 ∧ f5.offset = 5 ∧ f6.offset = 6) ∧ f0.type = 3 ∧ f1.type = 3 ∧ f2.type = 3 ∧ f3.type = 3 ∧ f4.type = 3 ∧ f5.type = 9 ∧ f6.type = 9 :=
  ⟨_, _, _, _, _, _, _, Tryz.underlying53, ⟨rfl, rfl, rfl, rfl, rfl, rfl, rfl⟩, rfl, rfl, rfl, rfl, rfl, rfl, rfl⟩
section
variable {H : Type} {enc : TypeId × Value → H} {W : World}
theorem open_int_cell {fuel : Nat} {v : Value} {x : DataW H × List MemPlace} (h : DataW.trod enc Tryz.prog W 0 (fun _ => true) true fuel 3 [v] = some x) : ∃ n : Int, v = .int .i64 n ∧ In64 n := by
  obtain ⟨n, e1, _, wk⟩ := DataW.trod_int Tryz.underlying3 h
  refine ⟨n, by simpa using e1, ?_⟩
  have m1 : IntKind.i64.min = -9223372036854775808 := rfl
  have m2 : IntKind.i64.max = 9223372036854775807 := rfl
  simp only [Lit.wf, Bool.and_eq_true, decide_eq_true_eq] at wk
  unfold In64
  omega
instance : Inhabited Opd := ⟨(0, 0, 0, 0, 0, ⟨#[]⟩, ⟨#[]⟩)⟩
theorem open_ops {base : Nat} {v : Value} {d : DataW H} {p : List MemPlace} (hv : Value.okWide Tryz.prog W .any base 43 v)
    (h : DataW.Trod enc Tryz.prog W 0 (fun _ => true) true 43 v d p) (hlt : ∀ x ∈ p, x.block < W.heap.size) : ∃ l : List Opd, Ops W v l := by
  obtain ⟨f0, f1, f2, f3, f4, f5, f6, he, ⟨o0, o1, o2, o3, o4, o5, o6⟩, t0, t1, t2, t3, t4, t5, t6⟩ := opdFields
  obtain ⟨a0, len0, cap0, rfl⟩ := okWide_slice Tryz.underlying43 hv
  obtain ⟨fuel, hf⟩ := h
  rcases open_slice (cs := [.slice a0 len0 cap0]) Tryz.underlying43 (by simpa [Value.cells] using hf) with ⟨hcs, _⟩ | ⟨a, len, cap, m, n, D, Pl, hcs, _, hl, hm, hmm, hx, hi⟩
  · obtain ⟨rfl, rfl, rfl⟩ : a0 = none ∧ len0 = 0 ∧ cap0 = 0 := by simpa using hcs
    exact ⟨[], Sl.nil_ _ _ _, fun _ h => by cases h⟩
  · obtain ⟨rfl, rfl, rfl⟩ : a0 = some a ∧ len0 = len ∧ cap0 = cap := by simpa using hcs
    have hlm : len0 ≤ m := by rw [hmm]; split <;> omega
    simp only [Prod.mk.injEq] at hx
    have each : ∀ i, i < len0 → ∃ q : Opd, (W.cell? (a.add (i * 7)) = some (.int .i64 q.1) ∧ W.cell? (a.add (i * 7 + 1)) = some (.int .i64 q.2.1) ∧ W.cell? (a.add (i * 7 + 2)) = some (.int .i64 q.2.2.1) ∧ W.cell? (a.add (i * 7 + 3)) = some (.int .i64 q.2.2.2.1) ∧ W.cell? (a.add (i * 7 + 4)) = some (.int .i64 q.2.2.2.2.1) ∧ W.cell? (a.add (i * 7 + 5)) = some (.string q.2.2.2.2.2.1) ∧ W.cell? (a.add (i * 7 + 6)) = some (.string q.2.2.2.2.2.2)) ∧ In4 q := by
      intro i hil
      obtain ⟨cs', h1, h2⟩ := hi i (by omega)
      rw [cellsOpd] at h1
      obtain ⟨_, hlen, hcell⟩ := World.cells?_some h1
      obtain ⟨xs, k, _, hxy, _, hxl, hg⟩ := DataW.trod_struct he h2
      match cs', hlen with
      | [c0, c1, c2, c3, c4, c5, c6], _ =>
        have hxl6 : xs.length = 7 := by simpa using hxl
        have g0 := hg 0 f0 rfl
        rw [o0, t0, cellsInt, List.getElem?_eq_getElem (by omega)] at g0
        have g1 := hg 1 f1 rfl
        rw [o1, t1, cellsInt, List.getElem?_eq_getElem (by omega)] at g1
        have g2 := hg 2 f2 rfl
        rw [o2, t2, cellsInt, List.getElem?_eq_getElem (by omega)] at g2
        have g3 := hg 3 f3 rfl
        rw [o3, t3, cellsInt, List.getElem?_eq_getElem (by omega)] at g3
        have g4 := hg 4 f4 rfl
        rw [o4, t4, cellsInt, List.getElem?_eq_getElem (by omega)] at g4
        have g5 := hg 5 f5 rfl
        rw [o5, t5, cellsStr, List.getElem?_eq_getElem (by omega)] at g5
        have g6 := hg 6 f6 rfl
        rw [o6, t6, cellsStr, List.getElem?_eq_getElem (by omega)] at g6
        obtain ⟨n0, e0, b0⟩ := open_int_cell (v := c0) (by simpa using g0)
        obtain ⟨n1, e1, b1⟩ := open_int_cell (v := c1) (by simpa using g1)
        obtain ⟨n2, e2, b2⟩ := open_int_cell (v := c2) (by simpa using g2)
        obtain ⟨n3, e3, b3⟩ := open_int_cell (v := c3) (by simpa using g3)
        obtain ⟨n4, e4, b4⟩ := open_int_cell (v := c4) (by simpa using g4)
        obtain ⟨s5, e5, _, _⟩ := DataW.trod_string Tryz.underlying9 g5
        obtain ⟨s6, e6, _, _⟩ := DataW.trod_string Tryz.underlying9 g6
        subst e0 e1 e2 e3 e4
        obtain rfl : c5 = .string s5 := by simpa using e5
        obtain rfl : c6 = .string s6 := by simpa using e6
        have e0 := hcell 0 (by omega)
        have e1 := hcell 1 (by omega)
        have e2 := hcell 2 (by omega)
        have e3 := hcell 3 (by omega)
        have e4 := hcell 4 (by omega)
        have e5 := hcell 5 (by omega)
        have e6 := hcell 6 (by omega)
        rw [add_add] at e0 e1 e2 e3 e4 e5 e6
        exact ⟨(n0, n1, n2, n3, n4, s5, s6), ⟨by simpa using e0, by simpa using e1, by simpa using e2, by simpa using e3, by simpa using e4, by simpa using e5, by simpa using e6⟩, b0, b1, b2, b3, b4⟩
    obtain ⟨C, hC⟩ := choose_lt (α := Opd) each
    have hlen : ((List.range len0).map C).length = len0 := by simp
    refine ⟨(List.range len0).map C, ⟨some a, cap0, by rw [hlen], by rw [hlen]; exact hl, hm, by rw [cellsO_length], fun hn => ?_⟩, fun o ho => ?_⟩
    case refine_2 =>
      obtain ⟨i, hi, rfl⟩ := List.mem_map.1 ho
      exact (hC i (List.mem_range.1 hi)).2
    have hpos : 0 < len0 := by omega
    obtain ⟨b, off, spot⟩ := a
    have hspot : spot = none := by simpa [Addr.add] using World.cell?_spot (hC 0 (by omega)).1.1
    subst hspot
    have hb : b < W.heap.size := by
      have := hlt (.cell b off) (by rw [hx.2]; exact List.mem_append_left _ (MemPlace.mem_row.2 ⟨0, by rw [cellsOpd]; omega, by simp⟩))
      exact this
    refine ⟨b, off, rfl, hb, fun j u hj => ?_⟩
    have hj2 : j < len0 * 7 := by
      have := (List.getElem?_eq_some_iff.1 hj).1
      rw [cellsO_length, hlen] at this
      exact this
    have hC2 := (hC (j / 7) (by omega)).1
    rw [add_plain0, add_plain0, add_plain0, add_plain0, add_plain0, add_plain0, add_plain0] at hC2
    have hg : ∀ (hh : j / 7 < ((List.range len0).map C).length), ((List.range len0).map C)[j / 7] = C (j / 7) := fun hh => by simp
    obtain ⟨k0, k1, k2, k3, k4, k5, k6⟩ := cellsO_at ((List.range len0).map C) (j / 7) (by omega)
    rw [hg] at k0 k1 k2 k3 k4 k5 k6
    have hm7 : j % 7 = 0 ∨ j % 7 = 1 ∨ j % 7 = 2 ∨ j % 7 = 3 ∨ j % 7 = 4 ∨ j % 7 = 5 ∨ j % 7 = 6 := by omega
    rcases hm7 with e | e | e | e | e | e | e
    · have ej : j = j / 7 * 7 := by omega
      rw [← ej] at k0 hC2
      rw [k0] at hj
      injection hj with hj
      rw [← hj]; exact hC2.1
    · have ej : j = j / 7 * 7 + 1 := by omega
      rw [← ej] at k1 hC2
      rw [k1] at hj
      injection hj with hj
      rw [← hj]; exact hC2.2.1
    · have ej : j = j / 7 * 7 + 2 := by omega
      rw [← ej] at k2 hC2
      rw [k2] at hj
      injection hj with hj
      rw [← hj]; exact hC2.2.2.1
    · have ej : j = j / 7 * 7 + 3 := by omega
      rw [← ej] at k3 hC2
      rw [k3] at hj
      injection hj with hj
      rw [← hj]; exact hC2.2.2.2.1
    · have ej : j = j / 7 * 7 + 4 := by omega
      rw [← ej] at k4 hC2
      rw [k4] at hj
      injection hj with hj
      rw [← hj]; exact hC2.2.2.2.2.1
    · have ej : j = j / 7 * 7 + 5 := by omega
      rw [← ej] at k5 hC2
      rw [k5] at hj
      injection hj with hj
      rw [← hj]; exact hC2.2.2.2.2.2.1
    · have ej : j = j / 7 * 7 + 6 := by omega
      rw [← ej] at k6 hC2
      rw [k6] at hj
      injection hj with hj
      rw [← hj]; exact hC2.2.2.2.2.2.2
end
end Go.Proofs.YtfofpphnglhopaaGreatDoor
namespace Go.Proofs.YtfofpphnglhopaaGreatDoor
open Go Go.RowKit
def Blk (w : World) (b : Nat) (cur : List Value) (t : TypeId) : Prop := w.heap[b]? = some (.cells cur.toArray t (0, 0))
section
variable {w w' : World} {b : Nat} {cur : List Value} {t : TypeId}
theorem Blk.lt (h : Blk w b cur t) : b < w.heap.size := (Array.getElem?_eq_some_iff.1 h).1
theorem Blk.cell (h : Blk w b cur t) {i : Nat} {v : Value} (hi : cur[i]? = some v) : w.cell? ⟨b, i, none⟩ = some v := by
  rw [cell_of_row w b i _ t _ h]; simpa using hi
theorem Blk.frozen (h : Blk w b cur t) (i : Nat) : w.frozen? ⟨b, i, none⟩ = false := frozen_of_row w b i _ t h
theorem Blk.set (h : Blk w b cur t) (i : Nat) (u : Value) : Blk (w.setCell ⟨b, i, none⟩ u) b (cur.set i u) t := by
  have := heap_setCell_same w b i _ t u h
  simpa [Blk] using this
theorem Blk.other (h : Blk w b cur t) {a : Addr} (hb : b ≠ a.block) (u : Value) : Blk (w.setCell a u) b cur t := (heap_setCell_other w a b u hb).trans h
theorem Blk.alloc (h : Blk w b cur t) (o : Obj) : Blk (w.alloc o) b cur t := (Below.heap_alloc w o b h.lt).trans h
theorem Blk.row (h : Blk w b cur t) (c : List Value) : Blk (w.setRow b c.toArray) b c t := setRow_heap w b _ _ t _ h
theorem Blk.inj {cur' : List Value} {t' : TypeId} (h : Blk w b cur t) (k : Blk w b cur' t') : cur = cur' := by
  have := h.symm.trans k
  simp at this
  exact this.1
end
theorem Blk.new (w : World) (cs : List Value) (t : TypeId) : Blk (w.alloc (.cells cs.toArray t)) w.heap.size cs t := heap_alloc_new w _
def Four (t : TypeId) : Prop := t = 5 ∨ t = 173 ∨ t = 153 ∨ t = 232
theorem four_byte : Four 5 := .inl rfl
theorem four_pool : Four 173 := .inr (.inl rfl)
theorem four_rows : Four 153 := .inr (.inr (.inl rfl))
theorem four_buf : Four 232 := .inr (.inr (.inr rfl))
structure Mv (B : Nat) (S : Nat → Prop) (w w' : World) : Prop where
  os : w'.os = w.os
  tape : w'.tape = w.tape
  output : w'.output = w.output
  size : w.heap.size ≤ w'.heap.size
  block : ∀ b, b < w.heap.size → ¬ S b → w'.heap[b]? = w.heap[b]?
  keep : ∀ b, b < w.heap.size → (b < B ∨ ∀ cur t f, w.heap[b]? = some (.cells cur t f) → ¬ Four t) → w'.heap[b]? = w.heap[b]?
section
variable {B : Nat} {S S' : Nat → Prop} {w w' w'' : World}
theorem Mv.refl (B : Nat) (S : Nat → Prop) (w : World) : Mv B S w w := ⟨rfl, rfl, rfl, Nat.le_refl _, fun _ _ _ => rfl, fun _ _ _ => rfl⟩
theorem Mv.trans (h : Mv B S w w') (k : Mv B S w' w'') : Mv B S w w'' :=
  ⟨k.os.trans h.os, k.tape.trans h.tape, k.output.trans h.output, Nat.le_trans h.size k.size, fun b hb hs => (k.block b (Nat.lt_of_lt_of_le hb h.size) hs).trans (h.block b hb hs), fun b hb hf => by
    have e := h.keep b hb hf
    exact (k.keep b (Nat.lt_of_lt_of_le hb h.size) (hf.imp id fun hf cur t f hc => hf cur t f (e ▸ hc))).trans e⟩
theorem Mv.mono (h : Mv B S w w') (hs : ∀ b, b < w.heap.size → S b → S' b) : Mv B S' w w' := ⟨h.os, h.tape, h.output, h.size, fun b hb hn => h.block b hb fun k => hn (hs b hb k), h.keep⟩
theorem Mv.set {b : Nat} {cur : List Value} {t : TypeId} (h : Blk w b cur t) (hS : S b) (hf : Four t) (hB : B ≤ b) (i : Nat) (u : Value) : Mv B S w (w.setCell ⟨b, i, none⟩ u) :=
  ⟨rfl, rfl, rfl, by simp [World.setCell], fun k _ hk => heap_setCell_other w _ k u (fun e => hk (by rw [e]; exact hS)), fun k _ hk => heap_setCell_other w _ k u fun e => by
    obtain rfl : k = b := e
    rcases hk with hk | hk
    · omega
    · exact hk _ _ _ h hf⟩
theorem Mv.row {b : Nat} {cur : List Value} {t : TypeId} (h : Blk w b cur t) (hS : S b) (hf : Four t) (hB : B ≤ b) (cs : Array Value) : Mv B S w (w.setRow b cs) :=
  ⟨rfl, rfl, rfl, by simp, fun k _ hk => setRow_other w b k cs (fun e => hk (by rw [e]; exact hS)), fun k _ hk => setRow_other w b k cs fun e => by
    subst e
    rcases hk with hk | hk
    · omega
    · exact hk _ _ _ h hf⟩
theorem Mv.alloc (B : Nat) (S : Nat → Prop) (w : World) (o : Obj) : Mv B S w (w.alloc o) :=
  ⟨rfl, rfl, rfl, by simp, fun k hk _ => Below.heap_alloc w o k hk, fun k hk _ => Below.heap_alloc w o k hk⟩
theorem Mv.drew (B : Nat) (S : Nat → Prop) (w : World) : Mv B S w w.drew := ⟨rfl, rfl, rfl, Nat.le_refl _, fun _ _ _ => rfl, fun _ _ _ => rfl⟩
theorem Mv.row_new (h : Mv B S w w') {g : Nat} (hg : w.heap.size ≤ g) (cs : Array Value) : Mv B S w (w'.setRow g cs) :=
  ⟨h.os, h.tape, h.output, by simpa using h.size, fun b hb hs => (setRow_other w' g b cs (by omega)).trans (h.block b hb hs), fun b hb hs => (setRow_other w' g b cs (by omega)).trans (h.keep b hb hs)⟩
theorem Mv.of_none (h : w.grownBy w' none) : Mv B S w w' := ⟨h.os, h.tape, h.output, h.size, fun b hb _ => h.block b hb (by simp), fun b hb _ => h.block b hb (by simp)⟩
theorem Blk.mv {b : Nat} {cur : List Value} {t : TypeId} (h : Blk w b cur t) (m : Mv B S w w') (hb : ¬ S b) : Blk w' b cur t := (m.block b h.lt hb).trans h
end
def Row (w : World) (B : Nat) (e : TypeId) (v : Value) (n : Nat) (xs : List Value) : Prop :=
  (v = .slice none 0 0 ∧ n = 0 ∧ xs = []) ∨
  ∃ g off cap cur, v = .slice (some ⟨g, off, none⟩) n cap ∧ B ≤ g ∧ Blk w g cur e ∧ n ≤ cap ∧ cap ≤ maxLen ∧ off + cap ≤ cur.length ∧ (cur.drop off).take n = xs
section
variable {w w' : World} {B : Nat} {e : TypeId} {v : Value} {n : Nat} {xs : List Value} {S : Nat → Prop}
theorem Row.len (h : Row w B e v n xs) : xs.length = n := by
  rcases h with ⟨_, rfl, rfl⟩ | ⟨g, off, cap, cur, _, _, _, h1, _, h2, rfl⟩
  · rfl
  · rw [List.length_take, List.length_drop]; omega
theorem Row.nil_ (w : World) (B : Nat) (e : TypeId) : Row w B e (.slice none 0 0) 0 [] := .inl ⟨rfl, rfl, rfl⟩
theorem Row.keep (h : Row w B e v n xs) (hk : ∀ g, v.ownBlock = some g → w'.heap[g]? = w.heap[g]?) : Row w' B e v n xs := by
  rcases h with h | ⟨g, off, cap, cur, rfl, h0, h1, h2⟩
  · exact .inl h
  · exact .inr ⟨g, off, cap, cur, rfl, h0, (hk g rfl).trans h1, h2⟩
theorem Row.lt (h : Row w B e v n xs) {g : Nat} (hg : v.ownBlock = some g) : B ≤ g ∧ g < w.heap.size ∧ ∃ cur, Blk w g cur e := by
  rcases h with ⟨rfl, _⟩ | ⟨g', off, cap, cur, rfl, h0, h1, _⟩
  · cases hg
  · cases hg
    exact ⟨h0, h1.lt, cur, h1⟩
theorem Row.mv (h : Row w B e v n xs) (m : Mv B S w w') (hb : ∀ g, v.ownBlock = some g → ¬ S g) : Row w' B e v n xs :=
  h.keep fun g hg => m.block g (h.lt hg).2.1 (hb g hg)
theorem Row.form (h : Row w B e v n xs) : ∃ A c, v = .slice A n c ∧ n ≤ c ∧ c ≤ maxLen := by
  rcases h with ⟨rfl, rfl, _⟩ | ⟨g, off, cap, cur, rfl, _, _, h1, h2, _⟩
  · exact ⟨none, 0, rfl, Nat.le_refl _, Nat.zero_le _⟩
  · exact ⟨_, cap, rfl, h1, h2⟩
theorem Row.form1 (h : Row w B e v n xs) (hn : 0 < n) : ∃ g off cap, v = .slice (some ⟨g, off, none⟩) n cap ∧ n ≤ cap ∧ cap ≤ maxLen ∧ B ≤ g := by
  rcases h with ⟨rfl, rfl, _⟩ | ⟨g, off, cap, cur, rfl, h0, _, h1, h2, _⟩
  · omega
  · exact ⟨g, off, cap, rfl, h1, h2, h0⟩
theorem Row.cell {g off c : Nat} (h : Row w B e (.slice (some ⟨g, off, none⟩) n c) n xs) {j : Nat} {u : Value} (hu : xs[j]? = some u) : w.cell? ⟨g, off + j, none⟩ = some u := by
  rcases h with ⟨h, _⟩ | ⟨g', off', cap, cur, hv, _, h1, h2, _, h3, rfl⟩
  · cases h
  · cases hv
    rw [List.getElem?_take] at hu
    split at hu
    · rw [List.getElem?_drop] at hu
      exact h1.cell hu
    · cases hu
theorem Row.frozen {g off c : Nat} (h : Row w B e (.slice (some ⟨g, off, none⟩) n c) n xs) (j : Nat) : w.frozen? ⟨g, j, none⟩ = false := by
  obtain ⟨_, _, cur, hb⟩ := h.lt (g := g) rfl
  exact hb.frozen j
theorem Row.set {g off c : Nat} (h : Row w B e (.slice (some ⟨g, off, none⟩) n c) n xs) (j : Nat) (u : Value) : Row (w.setCell ⟨g, off + j, none⟩ u) B e (.slice (some ⟨g, off, none⟩) n c) n (xs.set j u) := by
  rcases h with ⟨h, _⟩ | ⟨g', off', cap, cur, hv, h0, h1, h2, h4, h3, rfl⟩
  · cases h
  · cases hv
    refine .inr ⟨g, off, c, _, rfl, h0, h1.set _ _, h2, h4, by rw [List.length_set]; exact h3, ?_⟩
    rw [List.drop_set, if_neg (by omega), Nat.add_sub_cancel_left, List.take_set]
theorem Row.head {A : Option Addr} {c : Nat} (h : Row w B e (.slice A n c) n xs) (k : Nat) (hk : k ≤ n) : Row w B e (.slice A k c) k (xs.take k) := by
  rcases h with ⟨h, rfl, rfl⟩ | ⟨g', off', cap, cur, hv, h0, h1, h2, h4, h3, rfl⟩
  · cases h
    obtain rfl : k = 0 := by omega
    exact .inl ⟨rfl, rfl, rfl⟩
  · cases hv
    exact .inr ⟨g', off', c, cur, rfl, h0, h1, by omega, h4, h3, by rw [List.take_take, Nat.min_eq_left hk]⟩
theorem Row.room {A : Option Addr} {c : Nat} (h : Row w B e (.slice A n c) n xs) (k : Nat) (hk : n ≤ k) (hc : k ≤ c) : ∃ ys, Row w B e (.slice A k c) k (xs ++ ys) := by
  rcases h with ⟨h, rfl, rfl⟩ | ⟨g', off', cap, cur, hv, h0, h1, h2, h4, h3, rfl⟩
  · cases h
    obtain rfl : k = 0 := by omega
    exact ⟨[], .inl ⟨rfl, rfl, rfl⟩⟩
  · cases hv
    refine ⟨((cur.drop off').drop n).take (k - n), .inr ⟨g', off', c, cur, rfl, h0, h1, hc, h4, h3, ?_⟩⟩
    have := List.take_add (l := cur.drop off') (i := n) (j := k - n)
    rw [show n + (k - n) = k by omega] at this
    exact this
theorem Row.tail {A : Option Addr} {c : Nat} (h : Row w B e (.slice A n c) n xs) (k : Nat) (hk : k ≤ n) : Row w B e (.slice (if c = k then A else A.map (·.add k)) (n - k) (c - k)) (n - k) (xs.drop k) := by
  rcases h with ⟨h, rfl, rfl⟩ | ⟨g', off', cap, cur, hv, h0, h1, h2, h4, h3, rfl⟩
  · cases h
    obtain rfl : k = 0 := by omega
    exact .inl ⟨rfl, rfl, rfl⟩
  · cases hv
    by_cases hck : c = k
    · rw [if_pos hck]
      exact .inr ⟨g', off', c - k, cur, rfl, h0, h1, by omega, by omega, by omega, by rw [show n - k = 0 by omega, List.take_zero, List.drop_eq_nil_of_le (by rw [List.length_take]; omega)]⟩
    · rw [if_neg hck]
      refine .inr ⟨g', off' + k, c - k, cur, by simp [add_plain0], h0, h1, by omega, by omega, by omega, ?_⟩
      rw [List.drop_take, List.drop_drop]
theorem Row.src {P : Program} {tx e' : TypeId} (hk : P.underlying tx = some (.slice e')) (h : Row w B e v n xs) (h1 : ∀ u ∈ xs, u.oneCell' = true) : Src P 1 tx v n xs w := by
  have hl := h.len
  rcases h with ⟨rfl, rfl, rfl⟩ | ⟨g, off, cap, cur, rfl, h0, hb, h2⟩
  · exact Src.ofNil w hk 0
  · exact Src.ofSlice w hk _ n cap xs (by omega) (fun j u hu => by
      rw [add_plain0]
      exact Row.cell (.inr ⟨g, off, cap, cur, rfl, h0, hb, h2⟩) hu) h1
end
section
variable {P : Program} (w : World)
theorem run_append_row (B : Nat) (t tx ty e : TypeId) (i : TypeInfo) (z : Value) (ht : P.underlying t = some (.slice e)) (hi : P.info? e = some i) (hz : i.zero = some z) (hs1 : i.size = 1) (hzs : z.cells.size = 1) (hf : Four e)
    (v : Value) (n : Nat) (xs : List Value) (hr : Row w B e v n xs) (x : Value) (m : Nat) (news : List Value) (hs : Src P 1 tx x m news w) (hb : (n + m) * i.bytes ≤ 140737488355328) (hm : n + m ≤ 100000000) (hB : B ≤ w.heap.size) :
    ∃ v' w', (Builtin.append_ #[t, tx] ty #[v, x]).run P w = .ok v' w' ∧ Row w' B e v' (n + m) (xs ++ news) ∧ Mv B (fun b => v.ownBlock = some b) w w' ∧ (v'.ownBlock = v.ownBlock ∨ v'.ownBlock = some w.heap.size) := by
  have hs0 := hs
  rw [← hs1] at hs0
  have hnl : news.length = m := by simpa using hs.newsLen
  have hxl := hr.len
  have h63 : n + m ≤ maxLen := by simp only [maxLen]; omega
  have grown : ∀ (base : Option Addr) (cap : Nat) (hv : v = .slice base n cap) (hlt : cap < n + m) (hold : (Builtin.firstCells i.size n (.slice base n cap)).run P w.drew = .ok xs.toArray w.drew),
      ∃ v' w', (Builtin.append_ #[t, tx] ty #[v, x]).run P w = .ok v' w' ∧ Row w' B e v' (n + m) (xs ++ news) ∧ Mv B (fun b => v.ownBlock = some b) w w' ∧ (v'.ownBlock = v.ownBlock ∨ v'.ownBlock = some w.heap.size) := by
    intro base cap hv hlt hold
    subst hv
    have hge := grownCap_ge w (n + m) cap e
    have hcm := grownCap_le_maxLen w (n + m) cap e h63
    refine ⟨_, _, run_append_grow_src w t tx ty e i z ht hi hz base n cap xs hold x m news hs0 hlt (by omega) (growslice_fits hlt hb), .inr ⟨w.heap.size, 0, _, (xs ++ news) ++ (Builtin.zeroCells z.cells (grownCap w (n + m) cap e - (n + m))).toList, rfl, hB, ?_, hge, hcm, ?_, ?_⟩, (Mv.drew B _ w).trans (Mv.alloc B _ w.drew _), .inr rfl⟩
    · have e1 : ((xs ++ news).toArray ++ Builtin.zeroCells z.cells (grownCap w (n + m) cap e - (n + m))) = ((xs ++ news) ++ (Builtin.zeroCells z.cells (grownCap w (n + m) cap e - (n + m))).toList).toArray := by apply Array.ext'; simp
      rw [e1]
      exact Blk.new w.drew _ e
    · simp only [List.length_append, Array.length_toList, size_zeroCells, hzs]
      omega
    · rw [List.drop_zero]
      exact List.take_left' (by rw [List.length_append]; omega)
  rcases hr with ⟨rfl, rfl, rfl⟩ | ⟨g, off, cap, cur, rfl, h0, h1, h2, h3, h4, rfl⟩
  · by_cases hm0 : m = 0
    · subst hm0
      obtain rfl : news = [] := List.eq_nil_of_length_eq_zero hnl
      refine ⟨.slice none 0 0, w, ?_, .inl ⟨rfl, rfl, rfl⟩, Mv.refl _ _ _, .inl rfl⟩
      rcases hs.kind with ⟨e', hk⟩ | hk <;> simp [Builtin.append_, run_underlying ht, run_underlying hk, sizeOf, typeInfo, hi, hs0.len, hs0.cells]
    · exact grown none 0 rfl (by omega) (run_firstCells_none w.drew i.size 0 0 0)
  · by_cases hroom : n + m ≤ cap
    · have hst := run_storeCells_at P g (off + n) e news 0 cur.toArray w h1 (by simp; omega) hs.one
      simp only [Nat.add_zero] at hst
      refine ⟨.slice (some ⟨g, off, none⟩) (n + m) cap, w.setRow g (cur.take (off + n) ++ news ++ cur.drop (off + n + news.length)).toArray, ?_, .inr ⟨g, off, cap, _, rfl, h0, h1.row _, hroom, h3, ?_, ?_⟩, Mv.row (S := fun b => (Value.slice (some ⟨g, off, none⟩) n cap).ownBlock = some b) h1 rfl hf h0 _, .inl rfl⟩
      · rcases hs.kind with ⟨e', hk⟩ | hk <;> simp [Builtin.append_, run_underlying ht, run_underlying hk, sizeOf, typeInfo, hi, hs1, hs.len, hroom, hs.cells, Addr.add_lit, hst]
      · simp only [List.length_append, List.length_take, List.length_drop]; omega
      · have e1 : (cur.take (off + n) ++ news ++ cur.drop (off + n + news.length)).drop off = (cur.drop off).take n ++ news ++ cur.drop (off + n + news.length) := by
          rw [List.append_assoc, List.drop_append_of_le_length (by rw [List.length_take]; omega), List.drop_take, Nat.add_sub_cancel_left, List.append_assoc]
        rw [e1]
        exact List.take_left' (by simp only [List.length_append, List.length_take, List.length_drop]; omega)
    · refine grown (some ⟨g, off, none⟩) cap rfl (by omega) ?_
      refine run_firstCells_some w.drew i.size n ⟨g, off, none⟩ n cap _ (by rw [hs1, hxl, Nat.mul_one]) fun j u hu => ?_
      rw [add_plain0]
      exact Row.cell (w := w) (.inr ⟨g, off, cap, cur, rfl, h0, h1, h2, h3, h4, rfl⟩) hu
theorem run_append_zeros (B : Nat) (t tn ty e : TypeId) (i : TypeInfo) (z : Value) (kn : IntKind) (ht : P.underlying t = some (.slice e)) (htn : P.underlying tn = some (.int kn)) (hi : P.info? e = some i) (hz : i.zero = some z) (hs1 : i.size = 1) (hby : i.bytes = 1) (hzs : z.cells.size = 1)
    (A : Option Addr) (c n : Nat) (xs : List Value) (hr : Row w B e (.slice A n c) n xs) (kq : IntKind) (k : Nat) (hk : 0 < k) (hm : c + k ≤ 100000000) (hB : B ≤ w.heap.size) :
    ∃ cap w', (Builtin.append_ #[t, tn] ty #[.slice A c c, .int kq k]).run P w = .ok (.slice (some ⟨w.heap.size, 0, none⟩) (c + k) cap) w' ∧ c + k ≤ cap ∧ cap ≤ maxLen ∧ Row w' B e (.slice (some ⟨w.heap.size, 0, none⟩) n cap) n xs ∧ w.grownBy w' none := by
  have hnc : n ≤ c ∧ c ≤ maxLen := by
    obtain ⟨A', c', hv, h1, h2⟩ := hr.form
    cases hv
    exact ⟨h1, h2⟩
  have h63 : c + k ≤ maxLen := by simp only [maxLen]; omega
  have hge := grownCap_ge w (c + k) c e
  have hcm := grownCap_le_maxLen w (c + k) c e h63
  obtain ⟨ys, hys⟩ := hr.room c hnc.1 (Nat.le_refl _)
  have hyl := hys.len
  have hxl := hr.len
  have hold : (Builtin.firstCells i.size c (.slice A c c)).run P w.drew = .ok (xs ++ ys).toArray w.drew := by
    rcases hys with ⟨hv, h1, h2⟩ | ⟨g, off, cap, cur, hv, h0, h1, h2, h3, h4, h5⟩
    · cases hv
      rw [h2]
      exact run_firstCells_none w.drew i.size 0 0 0
    · cases hv
      refine run_firstCells_some w.drew i.size c ⟨g, off, none⟩ c c _ (by rw [hs1, hyl, Nat.mul_one]) fun j u hu => ?_
      rw [add_plain0]
      exact Row.cell (w := w) (n := c) (.inr ⟨g, off, c, cur, rfl, h0, h1, h2, h3, h4, h5⟩) hu
  have hfit := growslice_fits (need := c + k) (old := c) (bytes := i.bytes) (by omega) (by rw [hby]; omega)
  refine ⟨_, _, Lib.run_append_grow_zeros w t tn ty e i z kq kn ht htn hi hz A c c (xs ++ ys) hold k hk (by omega) (by omega) (by omega) (by rw [hby]; omega) hfit, hge, hcm, .inr ⟨w.heap.size, 0, _, (xs ++ ys) ++ (Builtin.zeroCells z.cells k).toList ++ (Builtin.zeroCells z.cells (grownCap w (c + k) c e - (c + k))).toList, rfl, hB, ?_, by omega, hcm, ?_, ?_⟩, ⟨rfl, rfl, rfl, by simp, fun b hb _ => Below.heap_alloc w.drew _ b hb⟩⟩
  · have e1 : ((xs ++ ys).toArray ++ Builtin.zeroCells z.cells k ++ Builtin.zeroCells z.cells (grownCap w (c + k) c e - (c + k))) = ((xs ++ ys) ++ (Builtin.zeroCells z.cells k).toList ++ (Builtin.zeroCells z.cells (grownCap w (c + k) c e - (c + k))).toList).toArray := by apply Array.ext'; simp
    rw [e1]
    exact Blk.new w.drew _ e
  · simp only [List.length_append, Array.length_toList, size_zeroCells, hzs] at hyl ⊢
    omega
  · rw [List.drop_zero, List.append_assoc, List.append_assoc]
    exact List.take_left' hxl
theorem run_copy_str (dT sT ty elem : TypeId) (hu : P.underlying dT = some (.slice elem)) (hs : (P.info? elem).map (·.size) = some 1) (g o dLen dCap : Nat) (cur : List Value) (t : TypeId) (hg : Blk w g cur t) (s : ByteArray) (hd : dLen ≤ s.size) (hfit : o + dLen ≤ cur.length) :
    (Builtin.copy_ #[dT, sT] ty #[.slice (some ⟨g, o, none⟩) dLen dCap, .string s]).run P w =
      .ok (goInt dLen) (w.setRow g (cur.take o ++ (byteCells s).take dLen ++ cur.drop (o + dLen)).toArray) := by
  have hl : ((byteCells s).take dLen).length = dLen := by rw [List.length_take, byteCells_length]; omega
  have hst := run_storeCells_at P g o t ((byteCells s).take dLen) 0 cur.toArray w hg (by simp only [Nat.add_zero, hl]; simpa using hfit) (fun u hu => by
    obtain ⟨_, _, rfl⟩ := List.mem_map.1 (List.mem_of_mem_take hu)
    rfl)
  rw [hl] at hst
  simp only [Nat.add_zero] at hst
  have hfc : (Builtin.firstCells 1 dLen (.string s)).run P w = .ok ((byteCells s).take dLen).toArray w := by
    simp [Builtin.firstCells, byteCells]
    apply Array.ext'
    simp
  cases hq : P.info? elem with
  | none => simp [hq] at hs
  | some i =>
    have hi : i.size = 1 := by simpa [hq] using hs
    have hmin : Nat.min s.size dLen = dLen := by show min _ _ = _; omega
    simp [Builtin.copy_, run_underlying hu, Builtin.lenOf, sizeOf, typeInfo, hq, hi, hmin, hfc, hst]
end
section
variable {P : Program} {w : World}
theorem wpList_append_of {ops : Array Oper} {rest : List Oper} {o : Oper} {a : Act} {Q : Exit → Act → World → Prop} (hgd : o.guard = none) (s x : Operand) (t tx : TypeId)
    (ho : o.op = .call { callee := .builtin .append, args := #[s, x], argTypes := #[t, tx] }) (v y r : Value) (w1 : World) (hs : a.eval s = v) (hx : a.eval x = y)
    (hrun : (Builtin.append_ #[t, tx] o.type #[v, y]).run P w = .ok r w1) (h : wpList P ops Q rest (a.put o.dst r) w1) : wpList P ops Q (o :: rest) a w :=
  wpList_plain hgd fun _ hK => by
    unfold Oper.wp execOp
    simp only [ho, resolve, invoke, builtin, Sem.run_bind, Sem.run_pure, Result.andThen_ok, List.map_toArray, List.map_cons, List.map_nil, hs, hx, hrun]
    exact hK _ _ h
end
theorem infoU8 : (Tryz.prog.info? 5).map (fun i => (i.zero, i.size, i.bytes)) = some (some (.int .u8 0), 1, 1) := by kernel_rfl
theorem infoRow : (Tryz.prog.info? 153).map (fun i => (i.zero, i.size, i.bytes)) = some (some (.slice none 0 0), 1, 24) := by kernel_rfl
theorem info_parts {P : Program} {t : TypeId} {z : Value} {s b : Nat} (h : (P.info? t).map (fun i => (i.zero, i.size, i.bytes)) = some (some z, s, b)) : ∃ i, P.info? t = some i ∧ i.zero = some z ∧ i.size = s ∧ i.bytes = b := by
  cases hi : P.info? t with
  | none => rw [hi] at h; cases h
  | some i =>
    rw [hi] at h
    simp only [Option.map_some, Option.some.injEq, Prod.mk.injEq] at h
    exact ⟨i, rfl, h.1, h.2.1, h.2.2⟩
theorem grow_any (B : Nat) (v : Value) (n : Nat) (xs : List Value) (k : Nat) (w : World) (hr : Row w B 5 v n xs) (hk : 0 < k) (hm : n + k ≤ 200000) (hB : B ≤ w.heap.size) :
    Calls Tryz.prog 286 #[v, .int .i64 (k : Int)] w fun e w' => ∃ g off c, e = .returned (.slice (some ⟨g, off, none⟩) n c) ∧ n + k ≤ c ∧ c ≤ maxLen ∧ Row w' B 5 (.slice (some ⟨g, off, none⟩) n c) n xs ∧ w.grownBy w' none ∧ (v.ownBlock = some g ∨ g = w.heap.size) := by
  obtain ⟨A, c, rfl, hc, hcm⟩ := hr.form
  unfold maxLen at hcm
  by_cases hroom : n + k ≤ c
  · obtain ⟨g, off, rfl⟩ : ∃ g off, A = some ⟨g, off, none⟩ := by
      rcases hr with ⟨h, _⟩ | ⟨g, off, cap, cur, hv, _⟩
      · cases h; omega
      · cases hv; exact ⟨g, off, rfl⟩
    have hr := Lib.hid hr
    go_enter Tryz.func286, Tryz.ntmps286
    go_wp2
    go_ret
    exact ⟨g, off, c, rfl, hroom, by unfold maxLen; omega, hr.out, ⟨rfl, rfl, rfl, Nat.le_refl _, fun _ _ _ => rfl⟩, .inl rfl⟩
  · obtain ⟨i0, hi, hz0, hz1, hz2⟩ := info_parts infoU8
    obtain ⟨k', hk'⟩ : ∃ k' : Nat, (k : Int) - ((c : Int) - (n : Int)) = (k' : Int) := ⟨k - (c - n), by omega⟩
    have hk0 : 0 < k' := by omega
    obtain ⟨cap, w2, hrun, h1, h2, h3, h4⟩ := run_append_zeros (P := Tryz.prog) w B 153 3 153 5 i0 _ .i64 Tryz.underlying153 Tryz.underlying3 hi hz0 hz1 hz2 rfl A c n xs hr .i64 k' hk0 (by omega) hB
    have hcn : n + k ≤ cap := by omega
    unfold maxLen at h2
    obtain ⟨z, hz⟩ : ∃ z, w.heap.size = z := ⟨_, rfl⟩
    rw [hz] at hrun h3 ⊢
    have hr := Lib.hid hr
    have hrun := Lib.hid hrun
    have h3 := Lib.hid h3
    have h4 := Lib.hid h4
    go_enter Tryz.func286, Tryz.ntmps286
    go_wp2_with (at_builtin; refine wpList_append_of rfl _ _ 153 3 rfl _ _ _ w2 rfl rfl hrun.out ?_)
    go_wp2
    go_ret
    exact ⟨z, 0, cap, rfl, hcn, by unfold maxLen; omega, h3.out, h4.out, .inr rfl⟩
end Go.Proofs.YtfofpphnglhopaaGreatDoor
namespace Go.Proofs.YtfofpphnglhopaaGreatDoor
open Go Go.RowKit Go.ChangeMaps Go.MapKept
structure KeyEnc {κ : Type} (d : TypeDesc) (enc : κ → Value) : Prop where
  is : ∀ k, IsKey d (enc k)
  inj : ∀ a b, enc a = enc b → a = b
def encI (i : Int) : Value := .int .i64 i
def encS (s : ByteArray) : Value := .string s
theorem keyI : KeyEnc (.int .i64) encI := ⟨fun _ => rfl, fun a b h => by simpa [encI] using h⟩
theorem keyS : KeyEnc .string encS := ⟨fun _ => trivial, fun a b h => by simpa [encS] using h⟩
section
variable {κ : Type}
section
variable [DecidableEq κ]
def look {α : Type} : List (κ × α) → κ → Option α
  | [], _ => none
  | p :: l, k => if p.1 = k then some p.2 else look l k
theorem look_none {α : Type} {l : List (κ × α)} {k : κ} : look l k = none ↔ ∀ p ∈ l, p.1 ≠ k := by
  induction l with
  | nil => simp [look]
  | cons a l ih =>
    unfold look
    split
    · rename_i h; simp [h]
    · rename_i h; simp [ih, h]
theorem look_mem {α : Type} {l : List (κ × α)} {k : κ} {v : α} (h : look l k = some v) : (k, v) ∈ l := by
  induction l with
  | nil => simp [look] at h
  | cons a l ih =>
    unfold look at h
    split at h
    · rename_i he; cases h; subst he; exact .head _
    · exact .tail _ (ih h)
theorem look_of_mem {α : Type} {l : List (κ × α)} {k : κ} {v : α} (hd : l.Pairwise (fun p q => p.1 ≠ q.1)) (h : (k, v) ∈ l) : look l k = some v := by
  induction l with
  | nil => cases h
  | cons a l ih =>
    unfold look
    rw [List.pairwise_cons] at hd
    cases h with
    | head => simp
    | tail _ h => rw [if_neg (fun e => hd.1 _ h e)]; exact ih hd.2 h
theorem look_map {α β : Type} (f : α → β) (l : List (κ × α)) (k : κ) : look (l.map fun p => (p.1, f p.2)) k = (look l k).map f := by
  induction l with
  | nil => rfl
  | cons a l ih =>
    simp only [List.map_cons, look]
    split
    · rfl
    · exact ih
theorem look_app {α : Type} {l m : List (κ × α)} {k : κ} : look (l ++ m) k = (look l k).or (look m k) := by
  induction l with
  | nil => rfl
  | cons a l ih =>
    simp only [List.cons_append, look]
    split
    · rfl
    · exact ih
end
def KMap (w : World) (b : Nat) (_d : TypeDesc) (enc : κ → Value) (l : List (κ × Value)) : Prop :=
  ∃ es clock, w.heap[b]? = some (.map es clock) ∧ Stamped es clock ∧ es.toList.map (fun x => (x.key, x.val)) = l.map (fun p => (enc p.1, p.2))
variable {w : World} {b : Nat} {d : TypeDesc} {enc : κ → Value} {l : List (κ × Value)}
theorem KMap.lt (h : KMap w b d enc l) : b < w.heap.size := by
  obtain ⟨es, clock, hb, _⟩ := h
  exact (Array.getElem?_eq_some_iff.1 hb).1
theorem KMap.keep {w' : World} (h : KMap w b d enc l) (hk : w'.heap[b]? = w.heap[b]?) : KMap w' b d enc l := by
  obtain ⟨es, clock, hb, h⟩ := h
  exact ⟨es, clock, hk.trans hb, h⟩
theorem KMap.new (w : World) (d : TypeDesc) (enc : κ → Value) : KMap (w.alloc (.map #[] 0)) w.heap.size d enc [] := ⟨#[], 0, (MapKept.heap_alloc w _).1, stamped_empty 0, rfl⟩
theorem KMap.no_cells (h : KMap w b d enc l) {cs : Array Value} {t : TypeId} {f : Nat × Nat} : w.heap[b]? ≠ some (.cells cs t f) := by
  obtain ⟨es, clock, hb, _⟩ := h
  rw [hb]; simp
theorem kmap_keys {es : Array MapEntry} (K : KeyEnc d enc) (he : es.toList.map (fun x => (x.key, x.val)) = l.map (fun p => (enc p.1, p.2))) : ∀ x ∈ es.toList, IsKey d x.key := by
  intro x hx
  have : (x.key, x.val) ∈ l.map (fun p => (enc p.1, p.2)) := by rw [← he]; exact List.mem_map_of_mem hx
  obtain ⟨p, _, e⟩ := List.mem_map.1 this
  have e1 : x.key = enc p.1 := (congrArg Prod.fst e).symm
  rw [e1]
  exact K.is _
theorem KMap.apart (h : KMap w b d enc l) : l.Pairwise (fun p q => p.1 ≠ q.1) := by
  obtain ⟨es, clock, hb, hs, he⟩ := h
  have h3 := ((stamped_iff es clock).1 hs).2.2
  have h4 : (es.toList.map (fun x => (x.key, x.val))).Pairwise (fun p q => p.1 ≠ q.1) := by rw [List.pairwise_map]; exact h3
  rw [he, List.pairwise_map] at h4
  exact h4.imp fun h e => h (by rw [e])
variable [DecidableEq κ]
theorem kmap_find {es : Array MapEntry} {clock : Nat} (K : KeyEnc d enc) (hs : Stamped es clock) (he : es.toList.map (fun x => (x.key, x.val)) = l.map (fun p => (enc p.1, p.2))) (k : κ) :
    (look l k = none ∧ Instr.findNow d (enc k) es.toList 0 = some none ∧ ∀ x ∈ es.toList, x.key ≠ enc k) ∨
      ∃ j e, look l k = some e.val ∧ Instr.findNow d (enc k) es.toList 0 = some (some (j, e.val)) ∧ es.toList[j]? = some e ∧ e.key = enc k := by
  have hap : l.Pairwise (fun p q => p.1 ≠ q.1) := by
    have h3 := ((stamped_iff es clock).1 hs).2.2
    have h4 : (es.toList.map (fun x => (x.key, x.val))).Pairwise (fun p q => p.1 ≠ q.1) := by rw [List.pairwise_map]; exact h3
    rw [he, List.pairwise_map] at h4
    exact h4.imp fun h e => h (by rw [e])
  rcases findNow_spec (K.is k) es.toList 0 (kmap_keys K he) with ⟨h1, h2⟩ | ⟨j, e, h1, h2, h3⟩
  · refine .inl ⟨look_none.2 fun p hp e => ?_, h1, h2⟩
    have : (enc p.1, p.2) ∈ es.toList.map (fun x => (x.key, x.val)) := by rw [he]; exact List.mem_map_of_mem (f := fun p : κ × Value => (enc p.1, p.2)) hp
    obtain ⟨x, hx, ex⟩ := List.mem_map.1 this
    exact h2 x hx ((congrArg Prod.fst ex).trans (by rw [e]))
  · refine .inr ⟨j, e, look_of_mem hap ?_, by simpa using h1, h2, h3⟩
    have : (e.key, e.val) ∈ l.map (fun p => (enc p.1, p.2)) := by
      rw [← he]
      exact List.mem_map_of_mem (f := fun x : MapEntry => (x.key, x.val)) (List.mem_of_getElem? h2)
    obtain ⟨p, hp, ep⟩ := List.mem_map.1 this
    cases p with
    | mk p1 p2 =>
      simp only [Prod.mk.injEq] at ep
      obtain ⟨e1, e2⟩ := ep
      rw [h3] at e1
      rw [← K.inj _ _ e1, ← e2]
      exact hp
variable {P : Program} {t kt e : TypeId}
theorem KMap.find (h : KMap w b d enc l) (K : KeyEnc d enc) (ht : P.underlying t = some (.map kt e)) (hd : P.underlying kt = some d) {z : Value} (hz : (zeroValue e).run P w = .ok z w) (c : Bool) (k : κ) :
    (Instr.lookup t (.map (some b)) (enc k) c).run P w = .ok (if c then .tuple #[(look l k).getD z, .bool (look l k).isSome] else (look l k).getD z) w := by
  obtain ⟨es, clock, hb, hs, he⟩ := h
  rcases kmap_find K hs he k with ⟨h0, h1, h2⟩ | ⟨j, x, h0, h1, h2, h3⟩
  · rw [h0]
    simp [Instr.lookup, run_underlying ht, MapKept.run_getObj_map hb, MapKept.run_checkKey hd (K.is k), MapKept.run_findKey hd h1, hz, Result.andThen]
  · rw [h0]
    simp [Instr.lookup, run_underlying ht, MapKept.run_getObj_map hb, MapKept.run_checkKey hd (K.is k), MapKept.run_findKey hd h1, Result.andThen]
omit [DecidableEq κ] in
theorem KMap.count (h : KMap w b d enc l) (ht : P.underlying t = some (.map kt e)) (ty : TypeId) : (Builtin.len_ #[t] ty #[.map (some b)]).run P w = .ok (.int .i64 (l.length : Int)) w := by
  obtain ⟨es, clock, hb, hs, he⟩ := h
  have : es.size = l.length := by
    have := congrArg List.length he
    simpa using this
  simp [Builtin.len_, run_underlying ht, MapKept.run_getObj_map hb, Result.andThen, this, goInt]
theorem KMap.push (h : KMap w b d enc l) (K : KeyEnc d enc) (ht : P.underlying t = some (.map kt e)) (hd : P.underlying kt = some d) {k : κ} (hk : look l k = none) (v : Value) :
    ∃ o, (Instr.mapUpdate t (.map (some b)) (enc k) v).run P w = .ok () (setBlock w b o) ∧ KMap (setBlock w b o) b d enc (l ++ [(k, v)]) := by
  obtain ⟨es, clock, hb, hs, he⟩ := h
  rcases kmap_find K hs he k with ⟨h0, h1, h2⟩ | ⟨j, x, h0, h1, h2, h3⟩
  · refine ⟨.map (es.push ⟨enc k, v, clock⟩) (clock + 1), ?_, es.push ⟨enc k, v, clock⟩, clock + 1, heap_setBlock_same hb _, stamped_push hs h2, by simp [he]⟩
    simp [Instr.mapUpdate, run_underlying ht, MapKept.run_getObj_map hb, MapKept.run_checkKey hd (K.is k), MapKept.run_findKey hd h1, MapKept.run_setObj_map _ hb, Result.andThen, setBlock]
  · rw [hk] at h0; cases h0
omit [DecidableEq κ] in
theorem erase_map {α β : Type} (g : α → β) (m : List α) (j : Nat) : (m.eraseIdx j).map g = (m.map g).eraseIdx j := by
  induction m generalizing j with
  | nil => rfl
  | cons a m ih =>
    cases j with
    | zero => rfl
    | succ j => simp [ih]
theorem erase_look {α : Type} {l : List (κ × α)} {k : κ} {v : α} (hd : l.Pairwise (fun p q => p.1 ≠ q.1)) {j : Nat} (h : l[j]? = some (k, v)) : l.eraseIdx j = l.filter (fun p => p.1 ≠ k) := by
  induction l generalizing j with
  | nil => simp at h
  | cons a l ih =>
    rw [List.pairwise_cons] at hd
    cases j with
    | zero =>
      simp only [List.getElem?_cons_zero, Option.some.injEq] at h
      subst h
      rw [List.filter_cons_of_neg (by simp), List.eraseIdx_cons_zero]
      exact (List.filter_eq_self.2 fun p hp => by simpa using fun e => hd.1 p hp e.symm).symm
    | succ j =>
      simp only [List.getElem?_cons_succ] at h
      rw [List.filter_cons_of_pos (by simpa using fun e => hd.1 _ (List.mem_of_getElem? h) e), List.eraseIdx_cons_succ, ih hd.2 h]
theorem KMap.drop (h : KMap w b d enc l) (K : KeyEnc d enc) (ht : P.underlying t = some (.map kt e)) (hd : P.underlying kt = some d) (k : κ) (ty : TypeId) :
    ∃ o, (Builtin.delete_ #[t, kt] ty #[.map (some b), enc k]).run P w = .ok (.tuple #[]) (setBlock w b o) ∧ KMap (setBlock w b o) b d enc (l.filter fun p => p.1 ≠ k) := by
  have hap := h.apart
  obtain ⟨es, clock, hb, hs, he⟩ := h
  rcases kmap_find K hs he k with ⟨h0, h1, h2⟩ | ⟨j, x, h0, h1, h2, h3⟩
  · refine ⟨.map es clock, ?_, es, clock, heap_setBlock_same hb _, hs, ?_⟩
    · simp [Builtin.delete_, run_underlying ht, MapKept.run_getObj_map hb, MapKept.run_checkKey hd (K.is k), MapKept.run_findKey hd h1, MapKept.run_setObj_map _ hb, Result.andThen, setBlock]
    · rw [List.filter_eq_self.2 fun p hp => by simpa using look_none.1 h0 p hp]
      exact he
  · have hjs : j < es.size := by simpa using (List.getElem?_eq_some_iff.1 h2).1
    have hsub : (es.eraseIdxIfInBounds j).toList = es.toList.eraseIdx j := by
      unfold Array.eraseIdxIfInBounds
      rw [dif_pos hjs]
      simp
    refine ⟨.map (es.eraseIdxIfInBounds j) clock, ?_, es.eraseIdxIfInBounds j, clock, heap_setBlock_same hb _, stamped_erase hs j, ?_⟩
    · simp [Builtin.delete_, run_underlying ht, MapKept.run_getObj_map hb, MapKept.run_checkKey hd (K.is k), MapKept.run_findKey hd h1, MapKept.run_setObj_map _ hb, Result.andThen, setBlock]
    · have hj : (l.map (fun p => (enc p.1, p.2)))[j]? = some (x.key, x.val) := by rw [← he]; simp [h2]
      simp only [List.getElem?_map, Option.map_eq_some_iff, Prod.mk.injEq] at hj
      obtain ⟨p, hp, e1, e2⟩ := hj
      rw [h3] at e1
      obtain ⟨p1, p2⟩ := p
      have e3 := K.inj _ _ e1
      simp only at e3
      subst e3
      rw [hsub, ← erase_look hap hp]
      rw [erase_map, he, erase_map]
variable {ops : Array Oper} {rest : List Oper} {o : Oper} {a : Act} {Q : Exit → Act → World → Prop}
theorem wpList_put_k (hg : o.guard = none) (m x v : Operand) (t : TypeId) (hop : o.op = Op.mapUpdate t m x v)
    (kt e : TypeId) (K : KeyEnc d enc) (ht : P.underlying t = some (.map kt e)) (hd : P.underlying kt = some d)
    (hm : a.eval m = .map (some b)) (h : KMap w b d enc l) (k : κ) (hx : a.eval x = enc k) (hk : look l k = none) (val : Value) (hv : a.eval v = val)
    (hK : ∀ ob, KMap (setBlock w b ob) b d enc (l ++ [(k, val)]) → wpList P ops Q rest (a.put o.dst undef) (setBlock w b ob)) :
    wpList P ops Q (o :: rest) a w := by
  refine wpList_plain hg fun K' hK' => ?_
  obtain ⟨ob, hrun, h1⟩ := h.push K ht hd hk val
  unfold Oper.wp
  simp [execOp, hop, hm, hx, hv, hrun, Result.andThen]
  exact hK' _ _ (hK ob h1)
theorem wpList_del_k (hg : o.guard = none) (m x : Operand) (t kt : TypeId) (hop : o.op = Op.call { callee := Callee.builtin Builtin.delete, args := #[m, x], argTypes := #[t, kt] })
    (e : TypeId) (K : KeyEnc d enc) (ht : P.underlying t = some (.map kt e)) (hd : P.underlying kt = some d)
    (hm : a.eval m = .map (some b)) (h : KMap w b d enc l) (k : κ) (hx : a.eval x = enc k)
    (hK : ∀ ob, KMap (setBlock w b ob) b d enc (l.filter fun p => p.1 ≠ k) → wpList P ops Q rest (a.put o.dst (.tuple #[])) (setBlock w b ob)) :
    wpList P ops Q (o :: rest) a w := by
  refine wpList_plain hg fun K' hK' => ?_
  obtain ⟨ob, hrun, h1⟩ := h.drop K ht hd k o.type
  unfold Oper.wp
  simp [execOp, hop, resolve, invoke, builtin, hm, hx, hrun, Result.andThen]
  exact hK' _ _ (hK ob h1)
end
end Go.Proofs.YtfofpphnglhopaaGreatDoor
namespace Go.Proofs.YtfofpphnglhopaaGreatDoor
open Go Go.RowKit Go.ChangeMaps
structure Chg (F F' : Nat → Prop) (w w' : World) : Prop where
  os : w'.os = w.os
  tape : w'.tape = w.tape
  output : w'.output = w.output
  size : w.heap.size ≤ w'.heap.size
  block : ∀ b, b < w.heap.size → ¬ F b → w'.heap[b]? = w.heap[b]?
  foot : ∀ b, b < w.heap.size → ¬ F b → ¬ F' b
section
variable {F F' F'' : Nat → Prop} {w w' w'' : World}
theorem Chg.refl (F : Nat → Prop) (w : World) : Chg F F w w := ⟨rfl, rfl, rfl, Nat.le_refl _, fun _ _ _ => rfl, fun _ _ h => h⟩
theorem Chg.trans (h : Chg F F' w w') (k : Chg F' F'' w' w'') : Chg F F'' w w'' :=
  ⟨k.os.trans h.os, k.tape.trans h.tape, k.output.trans h.output, Nat.le_trans h.size k.size,
   fun b hb hf => (k.block b (Nat.lt_of_lt_of_le hb h.size) (h.foot b hb hf)).trans (h.block b hb hf),
   fun b hb hf => k.foot b (Nat.lt_of_lt_of_le hb h.size) (h.foot b hb hf)⟩
theorem Chg.drewN (F : Nat → Prop) (w : World) (n : Nat) : Chg F F w (w.drewN n) := ⟨rfl, rfl, rfl, Nat.le_refl _, fun _ _ _ => rfl, fun _ _ h => h⟩
theorem Chg.wide (h : Chg F F' w w') (G : Nat → Prop) : Chg (fun g => F g ∨ G g) (fun g => F' g ∨ G g) w w' :=
  ⟨h.os, h.tape, h.output, h.size, fun b hb hf => h.block b hb (fun h => hf (.inl h)), fun b hb hf => fun k => k.elim (h.foot b hb (fun h => hf (.inl h))) (fun h => hf (.inr h))⟩
theorem Chg.mono {G G' : Nat → Prop} (h : Chg F F' w w') (h1 : ∀ b, F b → G b) (h2 : ∀ b, b < w.heap.size → G' b → F' b ∨ G b) : Chg G G' w w' :=
  ⟨h.os, h.tape, h.output, h.size, fun b hb hf => h.block b hb (fun h => hf (h1 b h)), fun b hb hf k => (h2 b hb k).elim (h.foot b hb (fun h => hf (h1 b h))) hf⟩
theorem Chg.none (h : Chg F F' w w') (hf : ∀ b, b < w.heap.size → ¬ F b) : w.grownBy w' .none := ⟨h.os, h.tape, h.output, h.size, fun b hb _ => h.block b hb (hf b hb)⟩
theorem Chg.of_grown (h : w.grownBy w' .none) (F : Nat → Prop) : Chg F F w w' := ⟨h.os, h.tape, h.output, h.size, fun b hb _ => h.block b hb (by simp), fun _ _ h => h⟩
theorem Chg.alloc (F : Nat → Prop) (w : World) (o : Obj) : Chg F (fun g => F g ∨ g = w.heap.size) w (w.alloc o) :=
  ⟨rfl, rfl, rfl, by simp, fun k hk _ => Below.heap_alloc w o k hk, fun b hb hf h => h.elim hf (fun h => by omega)⟩
theorem Chg.alloc_other (F : Nat → Prop) (w : World) (o : Obj) : Chg F F w (w.alloc o) :=
  ⟨rfl, rfl, rfl, by simp, fun k hk _ => Below.heap_alloc w o k hk, fun _ _ h => h⟩
theorem Chg.set {b : Nat} (h : F b) (i : Nat) (u : Value) : Chg F F w (w.setCell ⟨b, i, .none⟩ u) :=
  ⟨rfl, rfl, rfl, by simp [World.setCell], fun k _ hk => heap_setCell_other w _ k u (fun e => hk (by rw [e]; exact h)), fun _ _ h => h⟩
theorem Chg.row {b : Nat} (h : F b) (cs : Array Value) : Chg F F w (w.setRow b cs) :=
  ⟨rfl, rfl, rfl, by simp, fun k _ hk => setRow_other w b k cs (fun e => hk (by rw [e]; exact h)), fun _ _ h => h⟩
theorem setB_other {b g : Nat} (h : g ≠ b) (o : Obj) : (setBlock w b o).heap[g]? = w.heap[g]? := by simp [setBlock, Ne.symm h]
theorem Chg.setB {b : Nat} (h : F b) (o : Obj) : Chg F F w (setBlock w b o) :=
  ⟨rfl, rfl, rfl, by simp [setBlock], fun k _ hk => setB_other (fun e => hk (by rw [e]; exact h)) o, fun _ _ h => h⟩
theorem Chg.off (h : Chg F F' w w') {G : Nat → Prop} (hG : ∀ g, G g → g < w.heap.size ∧ ¬ F g) : ∀ g, G g → ¬ F' g := fun g hg => h.foot g (hG g hg).1 (hG g hg).2
theorem Blk.chg {b : Nat} {cur : List Value} {t : TypeId} (h : Blk w b cur t) (c : Chg F F' w w') (hb : ¬ F b) : Blk w' b cur t := (c.block b h.lt hb).trans h
theorem Blk.setB {b g : Nat} {cur : List Value} {t : TypeId} (h : Blk w b cur t) (hb : b ≠ g) (o : Obj) : Blk (setBlock w g o) b cur t := (setB_other hb o).trans h
end
end Go.Proofs.YtfofpphnglhopaaGreatDoor
namespace Go.Proofs.YtfofpphnglhopaaGreatDoor
open Go Go.RowKit
theorem zeroCells_u8 (k : Nat) : Builtin.zeroCells #[Value.int .u8 0] k = (List.replicate k (Value.int .u8 0)).toArray := by
  apply Array.ext
  · simp [Builtin.zeroCells]
  · intro i h1 h2
    simp [Builtin.zeroCells, Nat.mod_one]
def BlkM (w : World) (b : Nat) (cur : List Value) (t : TypeId) : Prop := ∃ f : Nat × Nat, (f.2 = 0 ∨ cur.length ≤ f.1) ∧ w.heap[b]? = some (.cells cur.toArray t f)
section
variable {w w' : World} {b : Nat} {cur : List Value} {t : TypeId}
theorem Blk.m (h : Blk w b cur t) : BlkM w b cur t := ⟨(0, 0), .inl rfl, h⟩
theorem BlkM.lt (h : BlkM w b cur t) : b < w.heap.size := by
  obtain ⟨f, _, h⟩ := h
  exact (Array.getElem?_eq_some_iff.1 h).1
theorem BlkM.keep (h : BlkM w b cur t) (hk : w'.heap[b]? = w.heap[b]?) : BlkM w' b cur t := by
  obtain ⟨f, hf, h⟩ := h
  exact ⟨f, hf, hk.trans h⟩
theorem BlkM.cell (h : BlkM w b cur t) {i : Nat} {v : Value} (hi : cur[i]? = some v) : w.cell? ⟨b, i, none⟩ = some v := by
  obtain ⟨f, _, h⟩ := h
  rw [cell_of_row w b i _ t _ h]; simpa using hi
theorem BlkM.row (h : BlkM w b cur t) (c : List Value) (hc : c.length = cur.length) : BlkM (w.setRow b c.toArray) b c t := by
  obtain ⟨f, hf, h⟩ := h
  exact ⟨f, by rw [hc]; exact hf, setRow_heap w b _ _ t _ h⟩
end
theorem run_storeCells_m {P : Program} (g o : Nat) (t : TypeId) (f : Nat × Nat) : ∀ (vs : List Value) (i : Nat) (cur : Array Value) (w : World), (f.2 = 0 ∨ cur.size ≤ f.1) → w.heap[g]? = some (.cells cur t f) → o + i + vs.length ≤ cur.size → (∀ v ∈ vs, v.oneCell' = true) →
    (storeCells ⟨g, o, none⟩ vs i).run P w = .ok () (w.setRow g (cur.toList.take (o + i) ++ vs ++ cur.toList.drop (o + i + vs.length)).toArray)
  | [], i, cur, w, _, hg, _, _ => by
    simp only [storeCells, List.append_nil, List.length_nil, Nat.add_zero, List.take_append_drop, Array.toArray_toList]
    rw [setRow_self w g cur t f hg]
    rfl
  | v :: rest, i, cur, w, hf, hg, hl, h1 => by
    have hi : o + i < cur.size := by simp at hl; omega
    have hadd : (⟨g, o, none⟩ : Addr).add i = ⟨g, o + i, none⟩ := by unfold Addr.add; split <;> simp_all
    have hcell : w.cell? ⟨g, o + i, none⟩ = some cur[o + i] := by simp [World.cell?, hg, hi]
    have hfro : w.frozen? ⟨g, o + i, none⟩ = false := by
      obtain ⟨f1, f2⟩ := f
      simp only [World.frozen?, hg, Bool.and_eq_false_iff, decide_eq_false_iff_not]
      simp only at hf
      omega
    have hst : (store ((⟨g, o, none⟩ : Addr).add i) v).run P w = .ok () (w.setRow g (cur.setIfInBounds (o + i) v)) := by
      rw [hadd, run_store P w _ v _ (h1 v (by simp)), hcell]
      simp [hfro, setCell_eq_setRow w g (o + i) cur t f v hg]
    have ih := run_storeCells_m (P := P) g o t f rest (i + 1) (cur.setIfInBounds (o + i) v) (w.setRow g (cur.setIfInBounds (o + i) v)) (by simpa using hf) (setRow_heap w g cur _ t _ hg) (by simp at hl ⊢; omega) (fun x hx => h1 x (by simp [hx]))
    simp only [storeCells, Sem.run_bind, hst, Result.andThen_ok, ih, setRow_setRow]
    congr 3
    have e := list_seg_step cur.toList (o + i) v rest (by simp at hl ⊢; omega)
    simpa [Array.toList_setIfInBounds, Nat.add_assoc] using e
def RowM (w : World) (e : TypeId) (v : Value) (n : Nat) (xs : List Value) : Prop :=
  (v = .slice none 0 0 ∧ n = 0 ∧ xs = []) ∨
  ∃ g off cap cur, v = .slice (some ⟨g, off, none⟩) n cap ∧ BlkM w g cur e ∧ n ≤ cap ∧ cap ≤ maxLen ∧ off + cap ≤ cur.length ∧ (cur.drop off).take n = xs
section
variable {w w' : World} {e : TypeId} {v : Value} {n : Nat} {xs : List Value}
theorem RowM.len (h : RowM w e v n xs) : xs.length = n := by
  rcases h with ⟨_, rfl, rfl⟩ | ⟨g, off, cap, cur, _, _, h1, _, h2, rfl⟩
  · rfl
  · rw [List.length_take, List.length_drop]; omega
theorem RowM.keep (h : RowM w e v n xs) (hk : ∀ g, v.ownBlock = some g → w'.heap[g]? = w.heap[g]?) : RowM w' e v n xs := by
  rcases h with h | ⟨g, off, cap, cur, rfl, h1, h2⟩
  · exact .inl h
  · exact .inr ⟨g, off, cap, cur, rfl, h1.keep (hk g rfl), h2⟩
theorem RowM.lt (h : RowM w e v n xs) {g : Nat} (hg : v.ownBlock = some g) : g < w.heap.size := by
  rcases h with ⟨rfl, _⟩ | ⟨g', off, cap, cur, rfl, h1, _⟩
  · cases hg
  · cases hg
    exact h1.lt
theorem RowM.form (h : RowM w e v n xs) : ∃ A c, v = .slice A n c ∧ n ≤ c ∧ c ≤ maxLen := by
  rcases h with ⟨rfl, rfl, _⟩ | ⟨g, off, cap, cur, rfl, _, h1, h2, _⟩
  · exact ⟨none, 0, rfl, Nat.le_refl _, Nat.zero_le _⟩
  · exact ⟨_, cap, rfl, h1, h2⟩
theorem RowM.form1 (h : RowM w e v n xs) (hn : 0 < n) : ∃ g off cap, v = .slice (some ⟨g, off, none⟩) n cap ∧ n ≤ cap ∧ cap ≤ maxLen := by
  rcases h with ⟨rfl, rfl, _⟩ | ⟨g, off, cap, cur, rfl, _, h1, h2, _⟩
  · omega
  · exact ⟨g, off, cap, rfl, h1, h2⟩
theorem RowM.formA {A : Option Addr} {c : Nat} (h : RowM w e (.slice A n c) n xs) (hc : 0 < c) : ∃ g off, A = some ⟨g, off, none⟩ := by
  rcases h with ⟨h, _⟩ | ⟨g, off, cap, cur, hv, _⟩
  · cases h; omega
  · cases hv; exact ⟨g, off, rfl⟩
theorem RowM.cell {g off c : Nat} (h : RowM w e (.slice (some ⟨g, off, none⟩) n c) n xs) {j : Nat} {u : Value} (hu : xs[j]? = some u) : w.cell? ⟨g, off + j, none⟩ = some u := by
  rcases h with ⟨h, _⟩ | ⟨g', off', cap, cur, hv, h1, h2, _, h3, rfl⟩
  · cases h
  · cases hv
    rw [List.getElem?_take] at hu
    split at hu
    · rw [List.getElem?_drop] at hu
      exact h1.cell hu
    · cases hu
theorem RowM.head {A : Option Addr} {c : Nat} (h : RowM w e (.slice A n c) n xs) (k : Nat) (hk : k ≤ n) : RowM w e (.slice A k c) k (xs.take k) := by
  rcases h with ⟨h, rfl, rfl⟩ | ⟨g', off', cap, cur, hv, h1, h2, h4, h3, rfl⟩
  · cases h
    obtain rfl : k = 0 := by omega
    exact .inl ⟨rfl, rfl, rfl⟩
  · cases hv
    exact .inr ⟨g', off', c, cur, rfl, h1, by omega, h4, h3, by rw [List.take_take, Nat.min_eq_left hk]⟩
theorem RowM.tail {A : Option Addr} {c : Nat} (h : RowM w e (.slice A n c) n xs) (k : Nat) (hk : k ≤ n) : RowM w e (.slice (if c = k then A else A.map (·.add k)) (n - k) (c - k)) (n - k) (xs.drop k) := by
  rcases h with ⟨h, rfl, rfl⟩ | ⟨g', off', cap, cur, hv, h1, h2, h4, h3, rfl⟩
  · cases h
    obtain rfl : k = 0 := by omega
    exact .inl ⟨rfl, rfl, rfl⟩
  · cases hv
    by_cases hck : c = k
    · rw [if_pos hck]
      exact .inr ⟨g', off', c - k, cur, rfl, h1, by omega, by omega, by omega, by rw [show n - k = 0 by omega, List.take_zero, List.drop_eq_nil_of_le (by rw [List.length_take]; omega)]⟩
    · rw [if_neg hck]
      refine .inr ⟨g', off' + k, c - k, cur, by simp [add_plain0], h1, by omega, by omega, by omega, ?_⟩
      rw [List.drop_take, List.drop_drop]
end
section
variable {P : Program} (w : World)
theorem run_append_more (t tn ty e : TypeId) (i : TypeInfo) (kn : IntKind) (ht : P.underlying t = some (.slice e)) (htn : P.underlying tn = some (.int kn)) (hi : P.info? e = some i) (hz : i.zero = some (.int .u8 0)) (hs1 : i.size = 1) (hby : i.bytes = 1) 
    (v : Value) (n : Nat) (xs : List Value) (hr : RowM w e v n xs) (kq : IntKind) (k : Nat) (hk : 0 < k) (hm : n + k ≤ 100000000) :
    ∃ v' w', (Builtin.append_ #[t, tn] ty #[v, .int kq k]).run P w = .ok v' w' ∧ RowM w' e v' (n + k) (xs ++ List.replicate k (Value.int .u8 0)) ∧ Chg (fun b => v.ownBlock = some b) (fun b => v'.ownBlock = some b ∨ v.ownBlock = some b) w w' ∧ (v'.ownBlock = v.ownBlock ∨ v'.ownBlock = some w.heap.size) := by
  have hxl := hr.len
  have hw : IntKind.i64.wrap (k : Int) = k := by rw [IntKind.wrap_i64]; omega
  have hzv : (zeroValue e).run P w = .ok (.int .u8 0) w := by simp [zeroValue, typeInfo, hi, hz]
  have h48i : ¬ (281474976710656 < (k : Int) * (i.bytes : Int)) := by rw [hby]; omega
  have hneg : ¬ ((k : Int) < 0) := by omega
  have hk0 : k ≠ 0 := by omega
  have grown : ∀ (base : Option Addr) (cap : Nat), v = .slice base n cap → cap < n + k → (Builtin.firstCells i.size n (.slice base n cap)).run P w.drew = .ok xs.toArray w.drew →
      ∃ v' w', (Builtin.append_ #[t, tn] ty #[v, .int kq k]).run P w = .ok v' w' ∧ RowM w' e v' (n + k) (xs ++ List.replicate k (Value.int .u8 0)) ∧ Chg (fun b => v.ownBlock = some b) (fun b => v'.ownBlock = some b ∨ v.ownBlock = some b) w w' ∧ (v'.ownBlock = v.ownBlock ∨ v'.ownBlock = some w.heap.size) := by
    intro base cap hv hlt hold
    subst hv
    have h63 : n + k ≤ maxLen := by simp only [maxLen]; omega
    have hge := grownCap_ge w (n + k) cap e
    have hcm := grownCap_le_maxLen w (n + k) cap e h63
    refine ⟨_, _, Lib.run_append_grow_zeros w t tn ty e i (.int .u8 0) kq kn ht htn hi hz base n cap xs hold k hk (by omega) hlt (by omega) (by rw [hby]; omega) (growslice_fits hlt (by rw [hby]; omega)),
      .inr ⟨w.heap.size, 0, _, (xs ++ List.replicate k (Value.int .u8 0)) ++ List.replicate (grownCap w (n + k) cap e - (n + k)) (Value.int .u8 0), rfl, ?_, hge, hcm, ?_, ?_⟩, ((Chg.drewN (fun b => (Value.slice base n cap).ownBlock = some b) w 1).trans (Chg.alloc_other (fun b => (Value.slice base n cap).ownBlock = some b) (w.drewN 1) _)).mono (fun _ h => h) (fun b hb h => h.elim (fun h => absurd hb (by cases h; exact Nat.lt_irrefl _)) .inr), .inr rfl⟩
    · have e1 : (xs.toArray ++ Builtin.zeroCells (Value.int .u8 0).cells k ++ Builtin.zeroCells (Value.int .u8 0).cells (grownCap w (n + k) cap e - (n + k))) = ((xs ++ List.replicate k (Value.int .u8 0)) ++ List.replicate (grownCap w (n + k) cap e - (n + k)) (Value.int .u8 0)).toArray := by
        show (xs.toArray ++ Builtin.zeroCells #[Value.int .u8 0] k ++ Builtin.zeroCells #[Value.int .u8 0] (grownCap w (n + k) cap e - (n + k))) = _
        rw [zeroCells_u8, zeroCells_u8]; simp
      rw [e1]
      exact (Blk.new w.drew _ e).m
    · simp only [List.length_append, List.length_replicate]
      omega
    · rw [List.drop_zero]
      exact List.take_left' (by simp only [List.length_append, List.length_replicate]; omega)
  rcases hr with ⟨rfl, rfl, rfl⟩ | ⟨g, off, cap, cur, rfl, ⟨f, hf, h1⟩, h2, h3, h4, rfl⟩
  · exact grown none 0 rfl (by omega) (run_firstCells_none w.drew i.size 0 0 0)
  · by_cases hroom : n + k ≤ cap
    · have hrep : (List.replicate k (Value.int .u8 0)).length = k := List.length_replicate
      have hst := run_storeCells_m (P := P) g (off + n) e f (List.replicate k (Value.int .u8 0)) 0 cur.toArray w (by simpa using hf) h1 (by simp; omega) (fun u hu => by rw [List.eq_of_mem_replicate hu]; rfl)
      simp only [Nat.add_zero] at hst
      have hzc : Builtin.zeroCells (Value.int .u8 0).cells k = (List.replicate k (Value.int .u8 0)).toArray := zeroCells_u8 k
      refine ⟨.slice (some ⟨g, off, none⟩) (n + k) cap, w.setRow g (cur.take (off + n) ++ List.replicate k (Value.int .u8 0) ++ cur.drop (off + n + (List.replicate k (Value.int .u8 0)).length)).toArray, ?_, .inr ⟨g, off, cap, _, rfl, BlkM.row ⟨f, hf, h1⟩ _ (by simp only [List.length_append, List.length_take, List.length_drop, hrep]; omega), hroom, h3, ?_, ?_⟩, (Chg.row (F := fun b => (Value.slice (some ⟨g, off, none⟩) n cap).ownBlock = some b) rfl _).mono (fun _ h => h) (fun b _ h => h.elim .inr .inl), .inl rfl⟩
      · simp [Builtin.append_, run_underlying ht, run_underlying htn, sizeOf, typeInfo, hi, hs1, asInt, asIntOf, hw, hneg, h48i, hk0, hroom, hzv, hzc, Addr.add_lit, hst]
      · simp only [List.length_append, List.length_take, List.length_drop, hrep]; omega
      · have e1 : (cur.take (off + n) ++ List.replicate k (Value.int .u8 0) ++ cur.drop (off + n + (List.replicate k (Value.int .u8 0)).length)).drop off = (cur.drop off).take n ++ List.replicate k (Value.int .u8 0) ++ cur.drop (off + n + (List.replicate k (Value.int .u8 0)).length) := by
          rw [List.append_assoc, List.drop_append_of_le_length (by rw [List.length_take]; omega), List.drop_take, Nat.add_sub_cancel_left, List.append_assoc]
        rw [e1]
        exact List.take_left' (by simp only [List.length_append, List.length_take, List.length_drop, hrep]; omega)
    · refine grown (some ⟨g, off, none⟩) cap rfl (by omega) ?_
      refine run_firstCells_some w.drew i.size n ⟨g, off, none⟩ n cap _ (by rw [hs1, hxl, Nat.mul_one]) fun j u hu => ?_
      rw [add_plain0]
      exact RowM.cell (w := w) (.inr ⟨g, off, cap, cur, rfl, ⟨f, hf, h1⟩, h2, h3, h4, rfl⟩) hu
theorem run_copy_part (dT sT ty elem : TypeId) (hu : P.underlying dT = some (.slice elem)) (hs : (P.info? elem).map (·.size) = some 1) (g off n c k : Nat) (xs : List Value) (hr : RowM w elem (.slice (some ⟨g, off, none⟩) n c) n xs) (s : ByteArray) (hd : k + s.size ≤ n) (dCap : Nat) :
    ∃ w', (Builtin.copy_ #[dT, sT] ty #[.slice (some ⟨g, off + k, none⟩) (n - k) dCap, .string s]).run P w = .ok (.int .i64 (s.size : Int)) w' ∧ RowM w' elem (.slice (some ⟨g, off, none⟩) n c) n (xs.take k ++ byteCells s ++ xs.drop (k + s.size)) ∧ Chg (fun b => b = g) (fun b => b = g) w w' := by
  rcases hr with ⟨h, _⟩ | ⟨g', off', cap, cur, hv, ⟨f, hf, h1⟩, h2, h3, h4, rfl⟩
  · cases h
  cases hv
  have hl : (byteCells s).length = s.size := byteCells_length s
  have hst := run_storeCells_m (P := P) g (off + k) elem f (byteCells s) 0 cur.toArray w (by simpa using hf) h1 (by simp only [Nat.add_zero, hl]; simp; omega) (fun u hu => by
    obtain ⟨_, _, rfl⟩ := List.mem_map.1 hu
    rfl)
  rw [hl] at hst
  simp only [Nat.add_zero] at hst
  have hfc : (Builtin.firstCells 1 s.size (.string s)).run P w = .ok (byteCells s).toArray w := by
    have : s.extract 0 s.size = s := by simp
    simp [Builtin.firstCells, byteCells, this]
    apply Array.ext'
    simp
  refine ⟨w.setRow g (cur.take (off + k) ++ byteCells s ++ cur.drop (off + k + s.size)).toArray, ?_, .inr ⟨g, off, c, _, rfl, BlkM.row ⟨f, hf, h1⟩ _ (by simp only [List.length_append, List.length_take, List.length_drop, hl]; omega), h2, h3, ?_, ?_⟩, Chg.row (F := fun b => b = g) rfl _⟩
  · cases hq : P.info? elem with
    | none => simp [hq] at hs
    | some i =>
      have hi : i.size = 1 := by simpa [hq] using hs
      have hmin : Nat.min s.size (n - k) = s.size := by show min _ _ = _; omega
      have hmin2 : Nat.min (n - k) s.size = s.size := by show min _ _ = _; omega
      simp [Builtin.copy_, run_underlying hu, Builtin.lenOf, sizeOf, typeInfo, hq, hi, hmin, hmin2, hfc, hst, goInt]
  · simp only [List.length_append, List.length_take, List.length_drop, hl]; omega
  · have e1 : (cur.take (off + k) ++ byteCells s ++ cur.drop (off + k + s.size)).drop off = (cur.drop off).take k ++ byteCells s ++ cur.drop (off + k + s.size) := by
      rw [List.append_assoc, List.drop_append_of_le_length (by rw [List.length_take]; omega), List.drop_take, Nat.add_sub_cancel_left, List.append_assoc]
    rw [e1]
    have e2 : ((cur.drop off).take n).take k = (cur.drop off).take k := by rw [List.take_take, Nat.min_eq_left (by omega)]
    have e3 : ((cur.drop off).take n).drop (k + s.size) = (cur.drop (off + k + s.size)).take (n - (k + s.size)) := by
      rw [List.drop_take, List.drop_drop, Nat.add_assoc]
    rw [e2, e3, List.take_append, List.take_append]
    have l1 : ((cur.drop off).take k).length = k := by rw [List.length_take, List.length_drop]; omega
    rw [List.length_append, l1, hl]
    congr 1
    · congr 1
      · exact List.take_of_length_le (by omega)
      · exact List.take_of_length_le (by rw [hl]; omega)
end
section
variable {P : Program}
theorem run_append_m (w : World) (t tx ty e : TypeId) (i : TypeInfo) (z : Value) (ht : P.underlying t = some (.slice e)) (hi : P.info? e = some i) (hz : i.zero = some z) (hs1 : i.size = 1) (hzs : z.cells.size = 1)
    (v : Value) (n : Nat) (xs : List Value) (hr : RowM w e v n xs) (x : Value) (m : Nat) (news : List Value) (hs : Src P 1 tx x m news w) (hb : (n + m) * i.bytes ≤ 140737488355328) (hm : n + m ≤ 100000000) :
    ∃ v' w', (Builtin.append_ #[t, tx] ty #[v, x]).run P w = .ok v' w' ∧ RowM w' e v' (n + m) (xs ++ news) ∧ Chg (fun b => v.ownBlock = some b) (fun b => v'.ownBlock = some b ∨ v.ownBlock = some b) w w' ∧ (v'.ownBlock = v.ownBlock ∨ v'.ownBlock = some w.heap.size) := by
  have hs0 := hs
  rw [← hs1] at hs0
  have hnl : news.length = m := by simpa using hs.newsLen
  have hxl := hr.len
  have h63 : n + m ≤ maxLen := by simp only [maxLen]; omega
  have grown : ∀ (base : Option Addr) (cap : Nat) (hv : v = .slice base n cap) (hlt : cap < n + m) (hold : (Builtin.firstCells i.size n (.slice base n cap)).run P w.drew = .ok xs.toArray w.drew),
      ∃ v' w', (Builtin.append_ #[t, tx] ty #[v, x]).run P w = .ok v' w' ∧ RowM w' e v' (n + m) (xs ++ news) ∧ Chg (fun b => v.ownBlock = some b) (fun b => v'.ownBlock = some b ∨ v.ownBlock = some b) w w' ∧ (v'.ownBlock = v.ownBlock ∨ v'.ownBlock = some w.heap.size) := by
    intro base cap hv hlt hold
    subst hv
    have hge := grownCap_ge w (n + m) cap e
    have hcm := grownCap_le_maxLen w (n + m) cap e h63
    refine ⟨_, _, run_append_grow_src w t tx ty e i z ht hi hz base n cap xs hold x m news hs0 hlt (by omega) (growslice_fits hlt hb), .inr ⟨w.heap.size, 0, _, (xs ++ news) ++ (Builtin.zeroCells z.cells (grownCap w (n + m) cap e - (n + m))).toList, rfl, ?_, hge, hcm, ?_, ?_⟩, ((Chg.drewN (fun b => (Value.slice base n cap).ownBlock = some b) w 1).trans (Chg.alloc_other (fun b => (Value.slice base n cap).ownBlock = some b) (w.drewN 1) _)).mono (fun _ h => h) (fun b hb h => h.elim (fun h => absurd hb (by cases h; exact Nat.lt_irrefl _)) .inr), .inr rfl⟩
    · have e1 : ((xs ++ news).toArray ++ Builtin.zeroCells z.cells (grownCap w (n + m) cap e - (n + m))) = ((xs ++ news) ++ (Builtin.zeroCells z.cells (grownCap w (n + m) cap e - (n + m))).toList).toArray := by apply Array.ext'; simp
      rw [e1]
      exact (Blk.new w.drew _ e).m
    · simp only [List.length_append, Array.length_toList, size_zeroCells, hzs]
      omega
    · rw [List.drop_zero]
      exact List.take_left' (by rw [List.length_append]; omega)
  rcases hr with ⟨rfl, rfl, rfl⟩ | ⟨g, off, cap, cur, rfl, ⟨f, hf, h1⟩, h2, h3, h4, rfl⟩
  · by_cases hm0 : m = 0
    · subst hm0
      obtain rfl : news = [] := List.eq_nil_of_length_eq_zero hnl
      refine ⟨.slice none 0 0, w, ?_, .inl ⟨rfl, rfl, rfl⟩, (Chg.refl (fun b => (Value.slice none 0 0).ownBlock = some b) w).mono (fun _ h => h) (fun _ _ h => h.elim .inl .inl), .inl rfl⟩
      rcases hs.kind with ⟨e', hk⟩ | hk <;> simp [Builtin.append_, run_underlying ht, run_underlying hk, sizeOf, typeInfo, hi, hs0.len, hs0.cells]
    · exact grown none 0 rfl (by omega) (run_firstCells_none w.drew i.size 0 0 0)
  · by_cases hroom : n + m ≤ cap
    · have hst := run_storeCells_m (P := P) g (off + n) e f news 0 cur.toArray w (by simpa using hf) h1 (by simp; omega) hs.one
      simp only [Nat.add_zero] at hst
      refine ⟨.slice (some ⟨g, off, none⟩) (n + m) cap, w.setRow g (cur.take (off + n) ++ news ++ cur.drop (off + n + news.length)).toArray, ?_, .inr ⟨g, off, cap, _, rfl, BlkM.row ⟨f, hf, h1⟩ _ (by simp only [List.length_append, List.length_take, List.length_drop]; omega), hroom, h3, ?_, ?_⟩, (Chg.row (F := fun b => (Value.slice (some ⟨g, off, none⟩) n cap).ownBlock = some b) rfl _).mono (fun _ h => h) (fun b _ h => h.elim .inr .inl), .inl rfl⟩
      · rcases hs.kind with ⟨e', hk⟩ | hk <;> simp [Builtin.append_, run_underlying ht, run_underlying hk, sizeOf, typeInfo, hi, hs1, hs.len, hroom, hs.cells, Addr.add_lit, hst]
      · simp only [List.length_append, List.length_take, List.length_drop]; omega
      · have e1 : (cur.take (off + n) ++ news ++ cur.drop (off + n + news.length)).drop off = (cur.drop off).take n ++ news ++ cur.drop (off + n + news.length) := by
          rw [List.append_assoc, List.drop_append_of_le_length (by rw [List.length_take]; omega), List.drop_take, Nat.add_sub_cancel_left, List.append_assoc]
        rw [e1]
        exact List.take_left' (by simp only [List.length_append, List.length_take, List.length_drop]; omega)
    · refine grown (some ⟨g, off, none⟩) cap rfl (by omega) ?_
      refine run_firstCells_some w.drew i.size n ⟨g, off, none⟩ n cap _ (by rw [hs1, hxl, Nat.mul_one]) fun j u hu => ?_
      rw [add_plain0]
      exact RowM.cell (w := w) (.inr ⟨g, off, cap, cur, rfl, ⟨f, hf, h1⟩, h2, h3, h4, rfl⟩) hu
end
end Go.Proofs.YtfofpphnglhopaaGreatDoor
