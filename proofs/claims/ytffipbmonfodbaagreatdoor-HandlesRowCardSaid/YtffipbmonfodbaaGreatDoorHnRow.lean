/-
  What every row of this seat needs: a world in which the listed tables lie, calls as an argument.
-/
import Derived.Test.YtffipbmonfodbaaGreatDoorCards
import Derived.Test.YtffipbmonfodbaaGreatDoorTie
import Derived.Test.YtffipbmonfodbaaGreatDoorMkWords
import Derived.ProofKit
import Derived.OpenShut
import Derived.MakeChecks
import Derived.Stop.LaidErr
import Derived.Deep.SlicePairs
import Derived.Deep.DeepHandedRow
import Derived.Lib.LaidTab
namespace Go.Proofs.YtffipbmonfodbaaGreatDoor
open Go Go.ChangeShapes Go.WideShapes Go.ChangeAt Go.RowKit Go.Deep

theorem rowOwn : ownKnob Tryz.prog.godebug = none := by kernel_rfl
theorem rowOut : laidOutB Tryz.prog = true := by kernel_rfl
/-- The data of the listed tables, as cells. -/
def litCell : DataW Unit → Value | .lit (.int k n) => .int k n | _ => .nilIface
def cellsOne : DataW Unit → List Value | .agg l => l.map litCell | _ => []
def cellsTwo : DataW Unit → List Value | .agg l => l.flatMap cellsOne | _ => []
def layCells (cs : List Value) : Obj → Obj
  | .cells _ t frozen => .cells cs.toArray t frozen
  | o => o
/-- A world for the witness: the settled one, the two tables holding what their texts lay. -/
noncomputable def laidWorld (os : Os) : World :=
  { World.holding Tryz.prog os ⟨#[], #[], []⟩ with heap := ((World.holding Tryz.prog os ⟨#[], #[], []⟩).heap.modify 1 (layCells (cellsOne Go.Pinned.utf8First))).modify 2 (layCells (cellsTwo Rows.laid_unicode_utf8_acceptRanges)) }
def rowLaid : List (String × DataW Unit) := [("unicode/utf8.acceptRanges", Rows.laid_unicode_utf8_acceptRanges), ("unicode/utf8.first", Rows.laid_unicode_utf8_first)]
set_option maxRecDepth 100000 in
theorem laid_met (os : Os) (args : Array Value) : laidMet Tryz.prog rowLaid ((laidWorld os).forCall (fun _ _ => 0) ⟨#[], args, []⟩).memory :=
  laidMet_of_run' 8 (by kernel_rfl) (by kernel_rfl)

/-- A call that is asked for: which, of which handle, of which node, a number, how a file is opened, bytes. -/
abbrev Opd := Int × Int × Int × Int × Bool × Bool × Bool × ByteArray
def opC (q : Opd) : List Value := [.int .i64 q.1, .int .i64 q.2.1, .int .i64 q.2.2.1, .int .i64 q.2.2.2.1, .bool q.2.2.2.2.1, .bool q.2.2.2.2.2.1, .bool q.2.2.2.2.2.2.1, .string q.2.2.2.2.2.2.2]
def cellsO (l : List Opd) : List Value := l.flatMap opC
theorem cellsO_length (l : List Opd) : (cellsO l).length = l.length * 8 := by
  induction l with
  | nil => rfl
  | cons a l ih => simp only [cellsO, List.flatMap_cons, List.length_append, opC, List.length_cons, List.length_nil] at ih ⊢; omega
theorem cellsO_at (l : List Opd) (k : Nat) (h : k < l.length) : (cellsO l)[k * 8]? = some (.int .i64 l[k].1) ∧ (cellsO l)[k * 8 + 1]? = some (.int .i64 l[k].2.1) ∧ (cellsO l)[k * 8 + 2]? = some (.int .i64 l[k].2.2.1) ∧ (cellsO l)[k * 8 + 3]? = some (.int .i64 l[k].2.2.2.1) ∧ (cellsO l)[k * 8 + 4]? = some (.bool l[k].2.2.2.2.1) ∧ (cellsO l)[k * 8 + 5]? = some (.bool l[k].2.2.2.2.2.1) ∧ (cellsO l)[k * 8 + 6]? = some (.bool l[k].2.2.2.2.2.2.1) ∧ (cellsO l)[k * 8 + 7]? = some (.string l[k].2.2.2.2.2.2.2) := by
  induction l generalizing k with
  | nil => simp at h
  | cons a l ih =>
    cases k with
    | zero => exact ⟨rfl, rfl, rfl, rfl, rfl, rfl, rfl, rfl⟩
    | succ k =>
      have e : (k + 1) * 8 = k * 8 + 1 + 1 + 1 + 1 + 1 + 1 + 1 + 1 := by omega
      have := ih k (by simpa using h)
      simp only [cellsO, List.flatMap_cons, opC, e, List.cons_append, List.nil_append, List.getElem?_cons_succ, List.getElem_cons_succ] at this ⊢
      exact this
def In64 (n : Int) : Prop := -9223372036854775808 ≤ n ∧ n ≤ 9223372036854775807
def In4 (q : Opd) : Prop := In64 q.1 ∧ In64 q.2.1 ∧ In64 q.2.2.1 ∧ In64 q.2.2.2.1
/-- A slice reads as such calls; numbers of 64 bits. -/
def Ops (w : World) (v : Value) (l : List Opd) : Prop := Sl w w.heap.size 8 v l.length (cellsO l) ∧ ∀ o ∈ l, In4 o
theorem Ops.form {w : World} {v : Value} {l : List Opd} (h : Ops w v l) : ∃ A c, v = .slice A l.length c ∧ l.length ≤ c ∧ c ≤ maxLen := by
  obtain ⟨⟨A, c, hv, h1, h2, _⟩, _⟩ := h
  exact ⟨A, c, hv, h1, h2⟩
theorem Ops.at_ {w : World} {A : Option Addr} {n c : Nat} {l : List Opd} (h : Ops w (.slice A n c) l) (k : Nat) (hk : k < l.length) : ∃ b off : Nat, A = some ⟨b, off, none⟩ ∧ b < w.heap.size ∧
    w.cell? ⟨b, off + k * 8, none⟩ = some (.int .i64 l[k].1) ∧ w.cell? ⟨b, off + k * 8 + 1, none⟩ = some (.int .i64 l[k].2.1) ∧ w.cell? ⟨b, off + k * 8 + 2, none⟩ = some (.int .i64 l[k].2.2.1) ∧ w.cell? ⟨b, off + k * 8 + 3, none⟩ = some (.int .i64 l[k].2.2.2.1) ∧ w.cell? ⟨b, off + k * 8 + 4, none⟩ = some (.bool l[k].2.2.2.2.1) ∧ w.cell? ⟨b, off + k * 8 + 5, none⟩ = some (.bool l[k].2.2.2.2.2.1) ∧ w.cell? ⟨b, off + k * 8 + 6, none⟩ = some (.bool l[k].2.2.2.2.2.2.1) ∧ w.cell? ⟨b, off + k * 8 + 7, none⟩ = some (.string l[k].2.2.2.2.2.2.2) := by
  obtain ⟨⟨A', c', hv, h1, h2, h3, h4⟩, _⟩ := h
  injection hv with e1 e2 e3
  subst e1 e2 e3
  obtain ⟨b, off, hA, hlt, hc⟩ := h4 (by omega)
  obtain ⟨c0, c1, c2, c3, c4, c5, c6, c7⟩ := cellsO_at l k hk
  exact ⟨b, off, hA, hlt, hc _ _ c0, by rw [Nat.add_assoc]; exact hc _ _ c1, by rw [Nat.add_assoc]; exact hc _ _ c2, by rw [Nat.add_assoc]; exact hc _ _ c3, by rw [Nat.add_assoc]; exact hc _ _ c4, by rw [Nat.add_assoc]; exact hc _ _ c5, by rw [Nat.add_assoc]; exact hc _ _ c6, by rw [Nat.add_assoc]; exact hc _ _ c7⟩
/-- A call's cells, whatever is made behind. -/
theorem ops_keep {w wr : World} {A : Option Addr} {n c : Nat} {l : List Opd} (h : Ops w (.slice A n c) l) (hm : ∀ b, b < w.heap.size → wr.heap[b]? = w.heap[b]?) (k : Nat) (hk : k < l.length) : ∃ b off : Nat, A = some ⟨b, off, none⟩ ∧ b < w.heap.size ∧
    wr.cell? ⟨b, off + k * 8, none⟩ = some (.int .i64 l[k].1) ∧ wr.cell? ⟨b, off + k * 8 + 1, none⟩ = some (.int .i64 l[k].2.1) ∧ wr.cell? ⟨b, off + k * 8 + 2, none⟩ = some (.int .i64 l[k].2.2.1) ∧ wr.cell? ⟨b, off + k * 8 + 3, none⟩ = some (.int .i64 l[k].2.2.2.1) ∧ wr.cell? ⟨b, off + k * 8 + 4, none⟩ = some (.bool l[k].2.2.2.2.1) ∧ wr.cell? ⟨b, off + k * 8 + 5, none⟩ = some (.bool l[k].2.2.2.2.2.1) ∧ wr.cell? ⟨b, off + k * 8 + 6, none⟩ = some (.bool l[k].2.2.2.2.2.2.1) ∧ wr.cell? ⟨b, off + k * 8 + 7, none⟩ = some (.string l[k].2.2.2.2.2.2.2) := by
  obtain ⟨b, off, hA, hb, c0, c1, c2, c3, c4, c5, c6, c7⟩ := h.at_ k hk
  have hk := hm b hb
  exact ⟨b, off, hA, hb, (World.cell?_of_block (a := ⟨b, off + k * 8, none⟩) hk).trans c0, (World.cell?_of_block (a := ⟨b, off + k * 8 + 1, none⟩) hk).trans c1, (World.cell?_of_block (a := ⟨b, off + k * 8 + 2, none⟩) hk).trans c2, (World.cell?_of_block (a := ⟨b, off + k * 8 + 3, none⟩) hk).trans c3, (World.cell?_of_block (a := ⟨b, off + k * 8 + 4, none⟩) hk).trans c4, (World.cell?_of_block (a := ⟨b, off + k * 8 + 5, none⟩) hk).trans c5, (World.cell?_of_block (a := ⟨b, off + k * 8 + 6, none⟩) hk).trans c6, (World.cell?_of_block (a := ⟨b, off + k * 8 + 7, none⟩) hk).trans c7⟩

theorem cellsStr : Tryz.prog.cellsOf 9 = 1 := by kernel_rfl
theorem cellsInt : Tryz.prog.cellsOf 3 = 1 := by kernel_rfl
theorem cellsBool : Tryz.prog.cellsOf 4 = 1 := by kernel_rfl
theorem cellsMode : Tryz.prog.cellsOf 37 = 3 := by kernel_rfl
theorem modeFields : ∃ f0 f1 f2 : Field, Tryz.prog.underlying 37 = some (.struct #[f0, f1, f2]) ∧ (f0.offset = 0 ∧ f1.offset = 1 ∧ f2.offset = 2) ∧ f0.type = 4 ∧ f1.type = 4 ∧ f2.type = 4 :=
  ⟨_, _, _, Tryz.underlying37, ⟨rfl, rfl, rfl⟩, rfl, rfl, rfl⟩
section
variable {H : Type} {enc : TypeId × Value → H} {W : World}
set_option maxRecDepth 100000 in
theorem open_int_cell {fuel : Nat} {v : Value} {x : DataW H × List MemPlace} (h : DataW.trod enc Tryz.prog W 0 (fun _ => true) true fuel 3 [v] = some x) : ∃ n : Int, v = .int .i64 n ∧ In64 n := by
  obtain ⟨n, e1, _, wk⟩ := DataW.trod_int Tryz.underlying3 h
  refine ⟨n, by simpa using e1, ?_⟩
  have m1 : IntKind.i64.min = -9223372036854775808 := rfl
  have m2 : IntKind.i64.max = 9223372036854775807 := rfl
  simp only [Lit.wf, Bool.and_eq_true, decide_eq_true_eq] at wk
  unfold In64
  omega
set_option maxRecDepth 100000 in
theorem open_mode {fuel : Nat} {u v t : Value} {x : DataW H × List MemPlace} (h : DataW.trod enc Tryz.prog W 0 (fun _ => true) true fuel 37 [u, v, t] = some x) : ∃ a b c : Bool, u = .bool a ∧ v = .bool b ∧ t = .bool c := by
  obtain ⟨f0, f1, f2, he, ⟨o0, o1, o2⟩, t0, t1, t2⟩ := modeFields
  obtain ⟨xs, k, _, hxy, _, hxl, hg⟩ := DataW.trod_struct he h
  have hxl3 : xs.length = 3 := by simpa using hxl
  have g0 := hg 0 f0 rfl
  have g1 := hg 1 f1 rfl
  have g2 := hg 2 f2 rfl
  rw [o0, t0, cellsBool, List.getElem?_eq_getElem (by omega)] at g0
  rw [o1, t1, cellsBool, List.getElem?_eq_getElem (by omega)] at g1
  rw [o2, t2, cellsBool, List.getElem?_eq_getElem (by omega)] at g2
  obtain ⟨a, e0, _⟩ := DataW.trod_bool Tryz.underlying4 g0
  obtain ⟨b, e1, _⟩ := DataW.trod_bool Tryz.underlying4 g1
  obtain ⟨c, e2, _⟩ := DataW.trod_bool Tryz.underlying4 g2
  exact ⟨a, b, c, by simpa using e0, by simpa using e1, by simpa using e2⟩
instance : Inhabited Opd := ⟨(0, 0, 0, 0, false, false, false, ⟨#[]⟩)⟩
end
end Go.Proofs.YtffipbmonfodbaaGreatDoor
