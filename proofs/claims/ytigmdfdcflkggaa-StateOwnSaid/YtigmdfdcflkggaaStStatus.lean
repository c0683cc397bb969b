/-
  SetStatus of a state: it changes the state's own block alone. Conditions: none.
-/
import Derived.Test.YtigmdfdcflkggaaStRest
namespace Go.Proofs.Ytigmdfdcflkggaa
open Go Go.RowKit Go.ChangeMaps

section
variable {w w' : World} {B sb : Nat} {a : Ad} {pot : Nat} {t : Tg} {n : Int}
/-- Every block but a state's is kept. -/
def KeepC (w w' : World) : Prop := ∀ (b : Nat) cur t, Blk w b cur t → t ≠ 51 → Blk w' b cur t
theorem KeepC.of_stp {cur : List Value} (hb : Blk w sb cur 51) (hS : Stp (fun b => b = sb) w w') : KeepC w w' := fun b c t hc ht => hc.stp hS (fun e => by
  subst e
  have e2 := hb.symm.trans hc
  simp only [Option.some.injEq, Obj.cells.injEq] at e2
  exact ht e2.2.1.symm)
theorem GvAt.keepC {g : Gv} (h : GvAt w g) (k : KeepC w w') : GvAt w' g :=
  ⟨h.1, h.2.1, h.2.2.1, fun hn => by
    obtain ⟨b, off, cur, e1, e2, e3⟩ := h.2.2.2 hn
    exact ⟨b, off, cur, e1, k _ _ _ e2 (by decide), e3⟩⟩
theorem MV.ns {t : TypeId} (h : MV.NoteT t) : t ≠ 51 := by rcases h with rfl | rfl | rfl | rfl <;> decide
theorem MN.ns {t : TypeId} (h : MN.NoteT t) : t ≠ 51 := by rcases h with rfl | rfl | rfl | rfl <;> decide
theorem MW.ns {t : TypeId} (h : MW.NoteT t) : t ≠ 51 := by rcases h with rfl | rfl | rfl | rfl <;> decide
theorem CS.ns {t : TypeId} (h : CS.NoteT t) : t ≠ 51 := by rcases h with rfl | rfl <;> decide
theorem CG.ns {t : TypeId} (h : CG.NoteT t) : t ≠ 51 := by rcases h with rfl | rfl <;> decide
theorem NoteAt.keepC {v : Value} {n : Nt} (h : NoteAt w a v n) (k : KeepC w w') : NoteAt w' a v n := by
  cases n with
  | v key x => exact MV.NoteAt.keep h fun b cur t hb ht => k b cur t hb (MV.ns ht)
  | f key x => exact h.elim
  | a key x => exact MW.NoteAt.keep h fun b cur t hb ht => k b cur t hb (MW.ns ht)
  | t key x => exact MW.NoteAt.keep h fun b cur t hb ht => k b cur t hb (MW.ns ht)
  | o s => exact CS.NoteAt.keep h fun b cur t hb ht => k b cur t hb (CS.ns ht)
  | g x => exact ⟨CG.NoteAt.keep h.1 fun b cur t hb ht => k b cur t hb (CG.ns ht), h.2.keepC k⟩
theorem ThAt.stp {cur : List Value} (h : ThAt w B a pot t) (hb : Blk w sb cur 51) (hS : Stp (fun b => b = sb) w w') : ThAt w' B a pot t := by
  obtain ⟨ms, fs, ev, ef, ea, et, h1, h2, h5, h6, h7, h8, h9⟩ := h
  have k := KeepC.of_stp hb hS
  refine ⟨ms, fs, ev, ef, ea, et, h1.keep ⟨hS.size, fun b _ _ _ hc ht => hS.block b (Array.getElem?_eq_some_iff.1 hc).1 (fun e => ?_)⟩, ?_, h5, fun i n hi => ?_, h7, h8, h9⟩
  · subst e
    have e2 := hb.symm.trans hc
    simp only [Option.some.injEq, Obj.cells.injEq] at e2
    rw [← e2.2.1] at ht
    rcases ht with ht | ht | ht | ht <;> exact absurd ht (by decide)
  · exact {
      mv := h2.mv.keep (hS.block _ h2.mv.blk.lt (fun e => (h2.mv.blk.ne hb (by decide)) e)) (hS.block _ h2.mv.map.lt (fun e => h2.mv.map.no_cells (by have := hb; rw [← e] at this; exact this)))
      mf := h2.mf.keep (hS.block _ h2.mf.blk.lt (fun e => (h2.mf.blk.ne hb (by decide)) e)) (hS.block _ h2.mf.map.lt (fun e => h2.mf.map.no_cells (by have := hb; rw [← e] at this; exact this)))
      ma := h2.ma.keep (hS.block _ h2.ma.blk.lt (fun e => (h2.ma.blk.ne hb (by decide)) e)) (hS.block _ h2.ma.map.lt (fun e => h2.ma.map.no_cells (by have := hb; rw [← e] at this; exact this)))
      mt := h2.mt.keep (hS.block _ h2.mt.blk.lt (fun e => (h2.mt.blk.ne hb (by decide)) e)) (hS.block _ h2.mt.map.lt (fun e => h2.mt.map.no_cells (by have := hb; rw [← e] at this; exact this)))
      co := ⟨h2.co.hB, h2.co.blk.stp hS (fun e => (h2.co.blk.ne hb (by decide)) e)⟩
      cg := ⟨h2.cg.hB, h2.cg.blk.stp hS (fun e => (h2.cg.blk.ne hb (by decide)) e)⟩
      lv := h2.lv
      lf := h2.lf
      la := h2.la
      lt := h2.lt
      ga := h2.ga.keepC k
      d := h2.d }
  · obtain ⟨v, hv, hn⟩ := h6 i n hi
    exact ⟨v, hv, hn.keepC k⟩
end
end Go.Proofs.Ytigmdfdcflkggaa
