/-
  What every row of this seat needs: a world in which the listed tables lie, the table of powers of ten out of the row's condition, an argument that is an int64.
-/
import Derived.Test.YtlijlgbaikijnaaGreatDoorCards
import Derived.Test.YtlijlgbaikijnaaGreatDoorTie
import Derived.Test.YtlijlgbaikijnaaGreatDoorSmAwake
import Derived.ProofKit
import Derived.OpenShut
import Derived.MakeChecks
import Derived.Stop.LaidErr
import Derived.Deep.DeepHandedRow
import Derived.Lib.LaidTab
namespace Go.Proofs.YtlijlgbaikijnaaGreatDoor
open Go Go.ChangeShapes Go.WideShapes Go.ChangeAt Go.RowKit

theorem rowOwn : ownKnob Tryz.prog.godebug = none := by kernel_rfl
theorem rowOut : laidOutB Tryz.prog = true := by kernel_rfl

set_option maxRecDepth 100000 in
/-- An argument that is an int64. -/
theorem open_i64 {H : Type} {enc : TypeId × Value → H} {W : World} {base : Nat} {v : Value} {d : DataW H} {p : List MemPlace} (hv : Value.okWide Tryz.prog W .any base 2 v)
    (h : DataW.Trod enc Tryz.prog W 0 (fun _ => true) true 2 v d p) : ∃ n : Int, v = .int .i64 n ∧ d = .lit (.int .i64 n) ∧ InR n := by
  obtain ⟨n, rfl, e, _, wk⟩ := open_int Tryz.underlying2 hv h
  refine ⟨n, rfl, e, ?_⟩
  have m1 : IntKind.i64.min = -9223372036854775808 := rfl
  have m2 : IntKind.i64.max = 9223372036854775807 := rfl
  simp only [Lit.wf, Bool.and_eq_true, decide_eq_true_eq] at wk
  unfold InR
  omega

/-- The data of the listed tables, as cells. -/
def litCell : DataW Unit → Value | .lit (.int k n) => .int k n | _ => .nilIface
def cellsOne : DataW Unit → List Value | .agg l => l.map litCell | _ => []
def cellsTwo : DataW Unit → List Value | .agg l => l.flatMap cellsOne | _ => []
def layCells (cs : List Value) : Obj → Obj
  | .cells _ t frozen => .cells cs.toArray t frozen
  | o => o
/-- A world for the witness: the settled one, the five tables holding what their texts lay. -/
noncomputable def laidWorld (os : Os) : World :=
  { World.holding Tryz.prog os ⟨#[], #[], []⟩ with heap := (((((World.holding Tryz.prog os ⟨#[], #[], []⟩).heap.modify 1 (layCells (cellsOne Go.Pinned.utf8First))).modify 2 (layCells (cellsTwo Rows.laid_unicode_utf8_acceptRanges))).modify 0 (layCells (cellsOne Rows.laid_internal_strconv_uint64pow10))).modify 5 (layCells (cellsOne Rows.laid_math_bits_deBruijn64tab))).modify 4 (layCells (cellsOne Rows.laid_math_bits_deBruijn32tab)) }
def rowLaid : List (String × DataW Unit) := [("math/bits.deBruijn32tab", Rows.laid_math_bits_deBruijn32tab), ("math/bits.deBruijn64tab", Rows.laid_math_bits_deBruijn64tab), ("internal/strconv.uint64pow10", Rows.laid_internal_strconv_uint64pow10), ("unicode/utf8.acceptRanges", Rows.laid_unicode_utf8_acceptRanges), ("unicode/utf8.first", Rows.laid_unicode_utf8_first)]
set_option maxRecDepth 100000 in
theorem laid_met (os : Os) (args : Array Value) : laidMet Tryz.prog rowLaid ((laidWorld os).forCall (fun _ _ => 0) ⟨#[], args, []⟩).memory :=
  laidMet_of_run' 8 (by kernel_rfl) (by kernel_rfl)

theorem pow10_data : (Rows.laid_internal_strconv_uint64pow10 : DataW Unit) = Lib.tabData .u64 Lib.pow10Tab := by kernel_rfl

set_option maxRecDepth 100000 in
/-- The table of powers of ten, out of the row's condition. -/
theorem tab_of_laid {W : World} (h : laidMetH Tryz.prog rowLaid W) : Tab W := by
  have h : laidMet Tryz.prog rowLaid W := (Go.MakeChecks.laidMetH_plain _ _ _ (by kernel_rfl)).mp h
  have h := h.tail.tail
  rw [pow10_data] at h
  exact Lib.tabIs_of_head (g := 0) (t := 144) (by kernel_rfl) (by kernel_rfl) Tryz.underlying144 Tryz.underlying61 (by kernel_rfl) (by kernel_rfl) h
end Go.Proofs.YtlijlgbaikijnaaGreatDoor
