/-
  A log and all that a state has of it: what Marks, Mark, Undo and the reading calls answer, and what there is behind them. Conditions: none.
-/
import Derived.Test.YtigmdfdcflkggaaStThings
namespace Go.Proofs.Ytigmdfdcflkggaa
open Go Go.RowKit Go.ChangeMaps

section
variable {w w' : World} {B : Nat} {a : Ad} {pot : Nat} {t : Tg}
theorem th_getv (h : ThAt w B a pot t) (k : ByteArray) : Calls Try.prog 49 #[ptrV a.v, .string k] w fun e w' => e = .returned (.tuple #[encV ((t.cur.v k).getD noV), .bool (t.cur.v k).isSome]) ∧ Below w.heap.size w w' := by
  obtain ⟨ms, fs, ev, ef, ea, et, h1, h2, h5, h6, h7, h8, h9⟩ := h
  rw [← h2.lv k]
  exact MV.Get_any h2.mv k
theorem th_geta (h : ThAt w B a pot t) (k : ByteArray) : Calls Try.prog 40 #[ptrV a.a, .string k] w fun e w' => e = .returned (.tuple #[encW ((t.cur.a k).getD noW), .bool (t.cur.a k).isSome]) ∧ Below w.heap.size w w' := by
  obtain ⟨ms, fs, ev, ef, ea, et, h1, h2, h5, h6, h7, h8, h9⟩ := h
  rw [← h2.la k]
  exact MW.Get_any h2.ma k
theorem th_gett (h : ThAt w B a pot t) (k : ByteArray) : Calls Try.prog 40 #[ptrV a.t, .string k] w fun e w' => e = .returned (.tuple #[encW ((t.cur.t k).getD noW), .bool (t.cur.t k).isSome]) ∧ Below w.heap.size w w' := by
  obtain ⟨ms, fs, ev, ef, ea, et, h1, h2, h5, h6, h7, h8, h9⟩ := h
  rw [← h2.lt k]
  exact MW.Get_any h2.mt k
theorem th_geto (h : ThAt w B a pot t) : Calls Try.prog 62 #[ptrV a.o] w fun e w' => e = .returned (.string t.cur.o) ∧ Below w.heap.size w w' := by
  obtain ⟨ms, fs, ev, ef, ea, et, h1, h2, h5, h6, h7, h8, h9⟩ := h
  exact CS.Get_any _ h2.co
theorem th_getg (h : ThAt w B a pot t) : Calls Try.prog 23 #[ptrV a.g] w fun e w' => e = .returned (.agg #[.slice t.cur.g.A t.cur.g.n t.cur.g.c, .int .i64 t.cur.g.a, .int .i64 t.cur.g.i]) ∧ Below w.heap.size w w' := by
  obtain ⟨ms, fs, ev, ef, ea, et, h1, h2, h5, h6, h7, h8, h9⟩ := h
  exact CG.Get_any _ _ _ _ _ h2.cg
theorem MV.enters : Enters Try.prog 70 := enters_of Try.func70 (by kernel_rfl) rfl
theorem MW.enters : Enters Try.prog 66 := enters_of Try.func66 (by kernel_rfl) rfl
theorem CS.enters : Enters Try.prog 47 := enters_of Try.func47 (by kernel_rfl) rfl
theorem CG.enters : Enters Try.prog 44 := enters_of Try.func44 (by kernel_rfl) rfl
theorem putK_length {α : Type} (es : Es α) (k : ByteArray) (v : α) : (putK es k v).length ≤ es.length + 1 := by
  unfold putK
  split
  · rw [List.length_map]; omega
  · rw [List.length_append]; simp
theorem dropK_length {α : Type} (es : Es α) (k : ByteArray) : (dropK es k).length ≤ es.length := List.length_filter_le _ _
/-- What there is when notes from j on are done. -/
def UnI (B : Nat) (a : Ad) (pot : Nat) (t : Tg) (fs : List Value) (w : World) (j : Nat) (W : World) : Prop :=
  ∃ ev ef ea et, Objs W B a (back (t.ns.drop j) t.cur) ev ef ea et ∧ (∀ (i : Nat) (n : Nt), t.ns[i]? = some n → ∃ v, fs[i]? = some v ∧ NoteAt W a v n) ∧ ev.length + ef.length + ea.length + et.length + j ≤ pot ∧ FrT B a w W
theorem back_step (t : Tg) {j : Nat} (h : j < t.ns.length) : back (t.ns.drop j) t.cur = apN t.ns[j] (back (t.ns.drop (j + 1)) t.cur) := by
  rw [List.drop_eq_getElem_cons h]; rfl
theorem uni_keep {fs : List Value} {j : Nat} {W W' : World} (h : UnI B a pot t fs w j W) (k : Fr B LogT (fun _ => False) W W') : UnI B a pot t fs w j W' := by
  obtain ⟨ev, ef, ea, et, hO, hN, hp, hF⟩ := h
  refine ⟨ev, ef, ea, et, hO.log k, fun i n hi => ?_, hp, hF.trans (FrT.log k)⟩
  obtain ⟨v, hv, hn⟩ := hN i n hi
  exact ⟨v, hv, hn.keep (KeepB.of_fr k)⟩
end
end Go.Proofs.Ytigmdfdcflkggaa
