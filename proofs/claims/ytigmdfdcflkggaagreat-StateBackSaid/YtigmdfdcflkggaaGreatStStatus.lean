/-
  SetStatus of a state: it changes the state's own block alone. Conditions: none.
-/
import Derived.Test.YtigmdfdcflkggaaGreatStRest
namespace Go.Proofs.YtigmdfdcflkggaaGreat
open Go Go.RowKit Go.ChangeMaps

section
variable {w w' : World} {B sb : Nat} {a : Ad} {pot : Nat} {t : Tg} {n : Int}
/-- Every block but a state's is kept. -/
def KeepC (w w' : World) : Prop := ∀ (b : Nat) cur t, Blk w b cur t → t ≠ 110 → Blk w' b cur t
theorem KeepC.of_stp {cur : List Value} (hb : Blk w sb cur 110) (hS : Stp (fun b => b = sb) w w') : KeepC w w' := fun b c t hc ht => hc.stp hS (fun e => by
  subst e
  have e2 := hb.symm.trans hc
  simp only [Option.some.injEq, Obj.cells.injEq] at e2
  exact ht e2.2.1.symm)
theorem GvAt.keepC {g : Gv} (h : GvAt w g) (k : KeepC w w') : GvAt w' g :=
  ⟨h.1, h.2.1, h.2.2.1, fun hn => by
    obtain ⟨b, off, cur, e1, e2, e3⟩ := h.2.2.2 hn
    exact ⟨b, off, cur, e1, k _ _ _ e2 (by decide), e3⟩⟩
theorem MV.ns {t : TypeId} (h : MV.NoteT t) : t ≠ 110 := by rcases h with rfl | rfl | rfl | rfl <;> decide
theorem MN.ns {t : TypeId} (h : MN.NoteT t) : t ≠ 110 := by rcases h with rfl | rfl | rfl | rfl <;> decide
theorem MW.ns {t : TypeId} (h : MW.NoteT t) : t ≠ 110 := by rcases h with rfl | rfl | rfl | rfl <;> decide
theorem CS.ns {t : TypeId} (h : CS.NoteT t) : t ≠ 110 := by rcases h with rfl | rfl <;> decide
theorem CG.ns {t : TypeId} (h : CG.NoteT t) : t ≠ 110 := by rcases h with rfl | rfl <;> decide
theorem NoteAt.keepC {v : Value} {n : Nt} (h : NoteAt w a v n) (k : KeepC w w') : NoteAt w' a v n := by
  cases n with
  | v key x => exact MV.NoteAt.keep h fun b cur t hb ht => k b cur t hb (MV.ns ht)
  | f key x => exact MN.NoteAt.keep h fun b cur t hb ht => k b cur t hb (MN.ns ht)
  | a key x => exact MW.NoteAt.keep h fun b cur t hb ht => k b cur t hb (MW.ns ht)
  | t key x => exact MW.NoteAt.keep h fun b cur t hb ht => k b cur t hb (MW.ns ht)
  | o s => exact CS.NoteAt.keep h fun b cur t hb ht => k b cur t hb (CS.ns ht)
  | g x => exact ⟨CG.NoteAt.keep h.1 fun b cur t hb ht => k b cur t hb (CG.ns ht), h.2.keepC k⟩
theorem ThAt.stp {cur : List Value} (h : ThAt w B a pot t) (hb : Blk w sb cur 110) (hS : Stp (fun b => b = sb) w w') : ThAt w' B a pot t := by
  obtain ⟨ms, fs, ev, ef, ea, et, h1, h2, h5, h6, h7, h8, h9⟩ := h
  have k := KeepC.of_stp hb hS
  refine ⟨ms, fs, ev, ef, ea, et, h1.keep ⟨hS.size, fun b _ _ _ hc ht => hS.block b (Array.getElem?_eq_some_iff.1 hc).1 (fun e => ?_)⟩, ?_, h5, fun i n hi => ?_, h7, h8, h9⟩
  · subst e
    have e2 := hb.symm.trans hc
    simp only [Option.some.injEq, Obj.cells.injEq] at e2
    rw [← e2.2.1] at ht
    rcases ht with ht | ht | ht | ht <;> exact absurd ht (by decide)
  · exact {
      mv := h2.mv.keep (hS.block _ h2.mv.blk.lt (fun e => (h2.mv.blk.ne hb (by decide)) e)) (hS.block _ h2.mv.map.lt (fun e => h2.mv.map.no_cells (by have := hb; rw [← e] at this; exact this)))
      mf := h2.mf.keep (hS.block _ h2.mf.blk.lt (fun e => (h2.mf.blk.ne hb (by decide)) e)) (hS.block _ h2.mf.map.lt (fun e => h2.mf.map.no_cells (by have := hb; rw [← e] at this; exact this)))
      ma := h2.ma.keep (hS.block _ h2.ma.blk.lt (fun e => (h2.ma.blk.ne hb (by decide)) e)) (hS.block _ h2.ma.map.lt (fun e => h2.ma.map.no_cells (by have := hb; rw [← e] at this; exact this)))
      mt := h2.mt.keep (hS.block _ h2.mt.blk.lt (fun e => (h2.mt.blk.ne hb (by decide)) e)) (hS.block _ h2.mt.map.lt (fun e => h2.mt.map.no_cells (by have := hb; rw [← e] at this; exact this)))
      co := ⟨h2.co.hB, h2.co.blk.stp hS (fun e => (h2.co.blk.ne hb (by decide)) e)⟩
      cg := ⟨h2.cg.hB, h2.cg.blk.stp hS (fun e => (h2.cg.blk.ne hb (by decide)) e)⟩
      lv := h2.lv
      lf := h2.lf
      la := h2.la
      lt := h2.lt
      ga := h2.ga.keepC k
      d := h2.d }
  · obtain ⟨v, hv, hn⟩ := h6 i n hi
    exact ⟨v, hv, hn.keepC k⟩
set_option maxRecDepth 100000 in
theorem SetStatus_any (h : StAt w B sb a pot t n) (x : Int) :
    Calls Tryz.prog 49 #[ptrV sb, .int .i64 x] w fun e w' => e = .returned (.tuple #[]) ∧ StAt w' B sb a pot t (bits .and .i64 x 255) ∧ Stp (fun b => b = sb) w w' := by
  have hi := sisNil_no h.blk
  have c6 := h.blk.cell (i := 6) rfl
  have f6 := h.blk.frozen 6
  have hlt := h.blk.lt
  unfold ptrV at hi ⊢
  go_enter Tryz.func49, Tryz.ntmps49
  go_wp2_with fail
  refine hi.mono ?_
  rintro e w' ⟨rfl, hw⟩
  obtain rfl := hw.symm
  clear hi hw
  have hS : Hid (StAt (w.setCell ⟨sb, 6, none⟩ (.int .i64 (bits .and .i64 x 255))) B sb a pot t (bits .and .i64 x 255) ∧ Stp (fun b => b = sb) w (w.setCell ⟨sb, 6, none⟩ (.int .i64 (bits .and .i64 x 255)))) :=
    Lib.hid ⟨⟨h.blk.set 6 _, h.th.stp h.blk (Stp.set (S := fun b => b = sb) rfl 6 _), h.hB⟩, Stp.set (S := fun b => b = sb) rfl 6 _⟩
  clear h
  go_wp2
  exact bodyPost_end (v := .tuple #[]) (results_none rfl _ _ _) rfl ⟨rfl, hS.out⟩
set_option maxRecDepth 100000 in
theorem Get_of (h : StAt w B sb a pot t n) (k : ByteArray) :
    Calls Tryz.prog 74 #[ptrV sb, .string k] w fun e w' => e = .returned (.tuple #[.string (valV t k).v, .bool (valV t k).s]) ∧ Below w.heap.size w w' := by
  have hg := Var_any h k
  generalize valV t k = V at hg ⊢
  obtain ⟨x0, x1, x2, x3⟩ := V
  unfold encV at hg
  unfold ptrV at hg ⊢
  dsimp only at hg ⊢
  clear h
  go_enter Tryz.func74, Tryz.ntmps74
  go_wp2_with fail
  refine hg.mono ?_
  rintro e w2 ⟨rfl, hb2⟩
  have hfin := Lib.hid (fun nq => drewB (hb2.alloc hb2.size (.cells #[.string x0, .bool x1, .bool x2, .bool x3] 59)) nq)
  have bC : Blk (w2.alloc (.cells #[.string x0, .bool x1, .bool x2, .bool x3] 59)) w2.heap.size [.string x0, .bool x1, .bool x2, .bool x3] 59 := Blk.new w2 _ _
  have e0 := bC.cell (i := 0) rfl
  have e1 := bC.cell (i := 1) rfl
  have lz := bC.lt
  clear hg hb2
  go_wp2
  go_quiet (fail)
  go_wp2
  go_ret2
  exact ⟨rfl, hfin.out _⟩
end
end Go.Proofs.YtigmdfdcflkggaaGreat
