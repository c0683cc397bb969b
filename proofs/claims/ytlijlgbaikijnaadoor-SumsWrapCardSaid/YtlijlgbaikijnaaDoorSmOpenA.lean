/-
  An argument opened: three numbers. Conditions: none.
-/
import Derived.Test.YtlijlgbaikijnaaDoorSmRow
namespace Go.Proofs.YtlijlgbaikijnaaDoor
open Go Go.ChangeShapes Go.WideShapes Go.ChangeAt Go.RowKit

theorem cellsThree : Tryd.prog.cellsOf 22 = 3 := by kernel_rfl
theorem cellsI64 : Tryd.prog.cellsOf 2 = 1 := by kernel_rfl
set_option maxRecDepth 100000 in
theorem okWide_three {W : World} {base : Nat} {v : Value} (h : Value.okWide Tryd.prog W .any base 22 v) : ∃ cs, v = .agg cs := by
  simp only [Value.okWide, Tryd.underlying22] at h
  obtain ⟨cs, h1, _⟩ := h
  exact ⟨cs, h1⟩
set_option maxRecDepth 100000 in
theorem open_i64_cell {H : Type} {enc : TypeId × Value → H} {W : World} {fuel : Nat} {v : Value} {x : DataW H × List MemPlace} (h : DataW.trod enc Tryd.prog W 0 (fun _ => true) true fuel 2 [v] = some x) : ∃ n : Int, v = .int .i64 n ∧ InR n := by
  obtain ⟨n, e1, _, wk⟩ := DataW.trod_int Tryd.underlying2 h
  refine ⟨n, by simpa using e1, ?_⟩
  have m1 : IntKind.i64.min = -9223372036854775808 := rfl
  have m2 : IntKind.i64.max = 9223372036854775807 := rfl
  simp only [Lit.wf, Bool.and_eq_true, decide_eq_true_eq] at wk
  unfold InR
  omega
set_option maxRecDepth 100000 in
theorem open_three {H : Type} {enc : TypeId × Value → H} {W : World} {base : Nat} {v : Value} {d : DataW H} {p : List MemPlace} (hv : Value.okWide Tryd.prog W .any base 22 v)
    (h : DataW.Trod enc Tryd.prog W 0 (fun _ => true) true 22 v d p) : ∃ a b c : Int, v = .agg #[.int .i64 a, .int .i64 b, .int .i64 c] ∧ InR a ∧ InR b ∧ InR c := by
  obtain ⟨cs, rfl⟩ := okWide_three hv
  obtain ⟨fuel, hf⟩ := h
  have hf : DataW.trod enc Tryd.prog W 0 (fun _ => true) true fuel 22 cs.toList = some (d, p) := hf
  obtain ⟨xs, m, _, _, hl, hxl, hg⟩ := DataW.trod_array Tryd.underlying22 hf
  rw [cellsThree] at hl
  obtain ⟨l, hcs⟩ : ∃ l, cs.toList = l := ⟨_, rfl⟩
  have hca : cs = l.toArray := by rw [← hcs]
  rw [hcs] at hl hg
  subst hca
  match l, hl with
  | [c0, c1, c2], _ =>
    have g0 := hg 0 (by omega)
    have g1 := hg 1 (by omega)
    have g2 := hg 2 (by omega)
    rw [cellsI64, List.getElem?_eq_getElem (by omega)] at g0 g1 g2
    obtain ⟨a, rfl, ha⟩ := open_i64_cell g0
    obtain ⟨b, rfl, hb⟩ := open_i64_cell g1
    obtain ⟨c, rfl, hc⟩ := open_i64_cell g2
    exact ⟨a, b, c, rfl, ha, hb, hc⟩
end Go.Proofs.YtlijlgbaikijnaaDoor
