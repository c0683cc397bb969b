/-
  What every row of this seat needs: a world in which the listed tables lie, the table of powers of ten out of the row's condition, an argument that is an int64.
-/
import Derived.Test.YtmoihdddmeienaaDoorCards
import Derived.Test.YtmoihdddmeienaaDoorTie
import Derived.Test.YtmoihdddmeienaaDoorPaAwake
import Derived.ProofKit
import Derived.OpenShut
import Derived.MakeChecks
import Derived.Stop.LaidErr
import Derived.Deep.DeepHandedRow
import Derived.Deep.Strs
namespace Go.Proofs.YtmoihdddmeienaaDoor
open Go Go.ChangeShapes Go.WideShapes Go.ChangeAt Go.RowKit Go.Deep

theorem rowOwn : ownKnob Tryd.prog.godebug = none := by kernel_rfl
theorem rowOut : laidOutB Tryd.prog = true := by kernel_rfl

/-- The data of the listed tables, as cells. -/
def litCell : DataW Unit → Value | .lit (.int k n) => .int k n | _ => .nilIface
def cellsOne : DataW Unit → List Value | .agg l => l.map litCell | _ => []
def cellsTwo : DataW Unit → List Value | .agg l => l.flatMap cellsOne | _ => []
def layCells (cs : List Value) : Obj → Obj
  | .cells _ t frozen => .cells cs.toArray t frozen
  | o => o
def synS : ByteArray := { data := #[105, 110, 118, 97, 108, 105, 100, 32, 115, 121, 110, 116, 97, 120] }
def rngS : ByteArray := { data := #[118, 97, 108, 117, 101, 32, 111, 117, 116, 32, 111, 102, 32, 114, 97, 110, 103, 101] }
/-- So many blocks has the settled world. -/
noncomputable def low : Nat := (World.holding Tryd.prog default ⟨#[], #[], []⟩).heap.size
/-- A world for the witness: the settled one, the five tables holding what their texts lay, the two errors pointing to blocks of their own. -/
noncomputable def laidWorld (os : Os) : World :=
  let w0 := World.holding Tryd.prog os ⟨#[.cells #[.string rngS] 129, .cells #[.string synS] 129], #[], []⟩
  { w0 with heap := (((((((w0.heap.modify 4 (layCells (cellsOne Go.Pinned.utf8First))).modify 5 (layCells (cellsTwo Rows.laid_unicode_utf8_acceptRanges))).modify 3 (layCells (cellsOne Rows.laid_internal_strconv_uint64pow10))).modify 7 (layCells (cellsOne Rows.laid_math_bits_deBruijn64tab))).modify 6 (layCells (cellsOne Rows.laid_math_bits_deBruijn32tab))).modify 1 (layCells [.iface 127 (.pointer (some ⟨low, 0, none⟩))])).modify 0 (layCells [.iface 127 (.pointer (some ⟨low + 1, 0, none⟩))])) }
def rowLaid : List (String × DataW Unit) := [("math/bits.deBruijn32tab", Rows.laid_math_bits_deBruijn32tab), ("math/bits.deBruijn64tab", Rows.laid_math_bits_deBruijn64tab), ("internal/strconv.uint64pow10", Rows.laid_internal_strconv_uint64pow10), ("unicode/utf8.acceptRanges", Rows.laid_unicode_utf8_acceptRanges), ("strconv.ErrRange", Rows.laid_strconv_ErrRange), ("strconv.ErrSyntax", Rows.laid_strconv_ErrSyntax), ("unicode/utf8.first", Rows.laid_unicode_utf8_first)]
set_option maxRecDepth 100000 in
theorem laid_met (os : Os) (args : Array Value) : laidMet Tryd.prog rowLaid ((laidWorld os).forCall (fun _ _ => 0) ⟨#[], args, []⟩).memory :=
  laidMet_of_run' 8 (by kernel_rfl) (by kernel_rfl)

theorem star_err : "*" ++ "errors.errorString" = "*errors.errorString" := by decide
theorem row_err (u : TypeId) (h : Tryd.prog.typeName? 3 u = some "*errors.errorString") : u = 127 :=
  typeName_ptr_named (nm := "errors.errorString") (by rw [star_err]; kernel_rfl) (by kernel_rfl) (by decide) u (by rw [star_err]; exact h)
theorem gER : Tryd.prog.globalNamed "strconv.ErrRange" = some 1 := by kernel_rfl

set_option maxRecDepth 100000 in
/-- The error for too great a number, out of the row's condition. -/
theorem erng_of_laid {W : World} (h : laidMetH Tryd.prog rowLaid W) : Erng W := by
  have h : laidMet Tryd.prog rowLaid W := (Go.MakeChecks.laidMetH_plain _ _ _ (by kernel_rfl)).mp h
  have h := h.tail.tail.tail.tail
  obtain ⟨a, s, hv, -, -, -⟩ := laid_sentinel h gER (by kernel_rfl) Tryd.underlying46 row_err Tryd.underlying127 Tryd.underlying129 rfl rfl Tryd.underlying9 (by kernel_rfl) (by kernel_rfl)
  have h0 := World.var?_cell gER hv 0
  exact ⟨_, _, by simpa using h0⟩

set_option maxRecDepth 100000 in
/-- An argument that is a byte. -/
theorem open_byte {H : Type} {enc : TypeId × Value → H} {W : World} {base : Nat} {v : Value} {d : DataW H} {p : List MemPlace} (hv : Value.okWide Tryd.prog W .any base 5 v)
    (h : DataW.Trod enc Tryd.prog W 0 (fun _ => true) true 5 v d p) : ∃ b : UInt8, v = .int .u8 (b.toNat : Int) := by
  obtain ⟨n, rfl, _, _, wk⟩ := open_int Tryd.underlying5 hv h
  have hk : 0 ≤ n ∧ n ≤ 255 := by
    have m1 : IntKind.u8.min = 0 := rfl
    have m2 : IntKind.u8.max = 255 := rfl
    simp only [Lit.wf, Bool.and_eq_true, decide_eq_true_eq] at wk
    omega
  refine ⟨UInt8.ofNat n.toNat, ?_⟩
  rw [UInt8.toNat_ofNat']
  congr 1
  omega
section
variable {H : Type} {enc : TypeId × Value → H} {W : World}
set_option maxRecDepth 100000 in
/-- An argument that is a slice of strings. -/
theorem open_ls {base : Nat} {v : Value} {d : DataW H} {p : List MemPlace} (hv : Value.okWide Tryd.prog W .any base 22 v)
    (h : DataW.Trod enc Tryd.prog W 0 (fun _ => true) true 22 v d p) (hlt : ∀ x ∈ p, x.block < W.heap.size) : ∃ l : List ByteArray, Ls W W.heap.size v l := by
  obtain ⟨a0, len0, cap0, rfl⟩ := okWide_slice Tryd.underlying22 hv
  obtain ⟨fuel, hf⟩ := h
  rcases open_strs (cs := [.slice a0 len0 cap0]) Tryd.underlying22 Tryd.underlying9 (by kernel_rfl) (by simpa [Value.cells] using hf) with ⟨hcs, _⟩ | ⟨a, len, cap, m, Sx, hcs, _, hl, hm, hmm, hx, hi⟩
  · obtain ⟨rfl, rfl, rfl⟩ : a0 = none ∧ len0 = 0 ∧ cap0 = 0 := by simpa using hcs
    exact ⟨[], Sl.nil_ _ _ _⟩
  · obtain ⟨rfl, rfl, rfl⟩ : a0 = some a ∧ len0 = len ∧ cap0 = cap := by simpa using hcs
    have hlm : len0 ≤ m := by rw [hmm]; split <;> omega
    simp only [Prod.mk.injEq] at hx
    have hlen : ((List.range len0).map Sx).length = len0 := by simp
    refine ⟨(List.range len0).map Sx, ⟨some a, cap0, by rw [hlen], by rw [hlen]; exact hl, hm, by simp, fun hn => ?_⟩⟩
    have hpos : 0 < len0 := by omega
    obtain ⟨b, off, spot⟩ := a
    have hspot : spot = none := by simpa [Addr.add] using World.cell?_spot (hi 0 (by omega)).1
    subst hspot
    have hb : b < W.heap.size := by
      have := hlt (.cell b off) (by rw [hx.2]; exact MemPlace.mem_row.2 ⟨0, by omega, by simp⟩)
      exact this
    refine ⟨b, off, rfl, hb, fun j u hj => ?_⟩
    have hj2 : j < len0 := by
      have := (List.getElem?_eq_some_iff.1 hj).1
      simpa using this
    have := (hi j (by omega)).1
    rw [add_plain0] at this
    rw [this]
    simpa [hj2] using hj
end
end Go.Proofs.YtmoihdddmeienaaDoor
