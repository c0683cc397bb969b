/-
  What every row of this seat needs: a world in which the listed tables lie, arguments that are a number, and a place with a bool.
-/
import Derived.Test.YtjeleebgifajkaaDoorCards
import Derived.Test.YtjeleebgifajkaaDoorTie
import Derived.Test.YtjeleebgifajkaaDoorLxAwake
import Derived.ProofKit
import Derived.OpenShut
import Derived.MakeChecks
import Derived.Stop.LaidErr
import Derived.Deep.DeepHandedRow
import Derived.Lib.LaidTab
namespace Go.Proofs.YtjeleebgifajkaaDoor
open Go Go.ChangeShapes Go.WideShapes Go.ChangeAt Go.RowKit

theorem rowOwn : ownKnob Tryd.prog.godebug = none := by kernel_rfl
theorem rowOut : laidOutB Tryd.prog = true := by kernel_rfl
theorem cellsInt : Tryd.prog.cellsOf 3 = 1 := by kernel_rfl
theorem cellsBool : Tryd.prog.cellsOf 4 = 1 := by kernel_rfl
theorem cellsIn : Tryd.prog.cellsOf 43 = 2 := by kernel_rfl
theorem inFields : ∃ f0 f1 : Field, Tryd.prog.underlying 43 = some (.struct #[f0, f1]) ∧ (f0.offset = 0 ∧ f1.offset = 1) ∧ f0.type = 3 ∧ f1.type = 4 :=
  ⟨_, _, Tryd.underlying43, ⟨rfl, rfl⟩, rfl, rfl⟩

set_option maxRecDepth 100000 in
/-- An argument that is an int. -/
theorem open_i {H : Type} {enc : TypeId × Value → H} {W : World} {base : Nat} {v : Value} {d : DataW H} {p : List MemPlace} (hv : Value.okWide Tryd.prog W .any base 3 v)
    (h : DataW.Trod enc Tryd.prog W 0 (fun _ => true) true 3 v d p) : ∃ n : Int, v = .int .i64 n := by
  obtain ⟨n, rfl, e, _, wk⟩ := open_int Tryd.underlying3 hv h
  exact ⟨n, rfl⟩
set_option maxRecDepth 100000 in
/-- An argument that is a place and a bool. -/
theorem open_in {H : Type} {enc : TypeId × Value → H} {W : World} {base : Nat} {v : Value} {d : DataW H} {p : List MemPlace} (hv : Value.okWide Tryd.prog W .any base 43 v)
    (h : DataW.Trod enc Tryd.prog W 0 (fun _ => true) true 43 v d p) : ∃ (n : Int) (b : Bool), v = .agg #[.int .i64 n, .bool b] := by
  obtain ⟨f0, f1, he, ⟨o0, o1⟩, t0, t1⟩ := inFields
  obtain ⟨cs, rfl, _⟩ := okWide_struct he hv
  obtain ⟨fuel, hf⟩ := h
  obtain ⟨xs, k, hk, hxy, hlen, hxl, hg⟩ := DataW.trod_struct he (cs := cs.toList) (by simpa [Value.cells] using hf)
  rw [cellsIn] at hlen
  obtain ⟨l⟩ := cs
  match l, hlen with
  | [c0, c1], _ =>
    have hxl2 : xs.length = 2 := by simpa using hxl
    have g0 := hg 0 f0 rfl
    have g1 := hg 1 f1 rfl
    rw [o0, t0, cellsInt, List.getElem?_eq_getElem (by omega)] at g0
    rw [o1, t1, cellsBool, List.getElem?_eq_getElem (by omega)] at g1
    obtain ⟨n, e0, _, _⟩ := DataW.trod_int Tryd.underlying3 g0
    obtain rfl : c0 = .int .i64 n := by simpa using e0
    obtain ⟨b, e1, _⟩ := DataW.trod_bool Tryd.underlying4 g1
    obtain rfl : c1 = .bool b := by simpa using e1
    exact ⟨n, b, rfl⟩

/-- The data of the listed tables, as cells. -/
def litCell : DataW Unit → Value | .lit (.int k n) => .int k n | _ => .nilIface
def cellsOne : DataW Unit → List Value | .agg l => l.map litCell | _ => []
def cellsTwo : DataW Unit → List Value | .agg l => l.flatMap cellsOne | _ => []
def layCells (cs : List Value) : Obj → Obj
  | .cells _ t frozen => .cells cs.toArray t frozen
  | o => o
/-- A world for the witness: the settled one, the tables holding what their texts lay. -/
noncomputable def laidWorld (os : Os) : World :=
  { World.holding Tryd.prog os ⟨#[], #[], []⟩ with heap := ((World.holding Tryd.prog os ⟨#[], #[], []⟩).heap.modify 1 (layCells (cellsOne Go.Pinned.utf8First))).modify 2 (layCells (cellsTwo Rows.laid_unicode_utf8_acceptRanges)) }
def rowLaid : List (String × DataW Unit) := [("unicode/utf8.acceptRanges", Rows.laid_unicode_utf8_acceptRanges), ("unicode/utf8.first", Rows.laid_unicode_utf8_first)]
set_option maxRecDepth 100000 in
theorem laid_met (os : Os) (args : Array Value) : laidMet Tryd.prog rowLaid ((laidWorld os).forCall (fun _ _ => 0) ⟨#[], args, []⟩).memory :=
  laidMet_of_run' 8 (by kernel_rfl) (by kernel_rfl)
end Go.Proofs.YtjeleebgifajkaaDoor
