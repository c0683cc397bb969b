/-
  Calls of a state that are few steps each: Func, SetFunc, UnsetFunc, Unalias, Untrap, Cursor, SetCursor, Status. Conditions: keys of at most 200 bytes.
-/
import Derived.Test.YtigmdfdcflkggaaStNamed
import Derived.BigQuiet
import Derived.Deep.RegionHeld3
namespace Go.Proofs.Ytigmdfdcflkggaa
open Go Go.RowKit Go.ChangeMaps

section
variable {w w' : World} {B sb : Nat} {a : Ad} {pot : Nat} {t : Tg} {n : Int}
def Tg.setF (t : Tg) (k : ByteArray) (x : Nd) : Int × Tg := if nameB k = true then t.putf k x else (16, t)
def Tg.unsetF (t : Tg) (k : ByteArray) : Int × Tg := if nameB k = true then (if (t.cur.f k).isSome = true then t.delf k else (10, t)) else (16, t)
def Tg.unalias (t : Tg) (k : ByteArray) : Int × Tg := if (t.cur.a k).isSome = true then t.dela k else (10, t)
def Tg.untrap (t : Tg) (k : ByteArray) : Int × Tg := if trapB k = true then t.delt k else (16, t)
theorem fieldG (A : Option Addr) (m c : Nat) (x y : Int) (W : World) : (Instr.field 54 (.agg #[.slice A m c, .int .i64 x, .int .i64 y]) 1).run Try.prog W = .ok (.int .i64 x) W ∧ (Instr.field 54 (.agg #[.slice A m c, .int .i64 x, .int .i64 y]) 2).run Try.prog W = .ok (.int .i64 y) W := by constructor <;> kernel_rfl
def Tg.setC (t : Tg) (p q : Int) : Int × Tg := if p < 0 ∨ q < 0 then (1, t) else t.setg ⟨t.cur.g.A, t.cur.g.n, t.cur.g.c, p, q, t.cur.g.l⟩
theorem StAt.gv (h : StAt w B sb a pot t n) : GvAt w t.cur.g := by
  obtain ⟨ms, fs, ev, ef, ea, et, h1, h2, _⟩ := h.th
  exact h2.ga
end
end Go.Proofs.Ytigmdfdcflkggaa
