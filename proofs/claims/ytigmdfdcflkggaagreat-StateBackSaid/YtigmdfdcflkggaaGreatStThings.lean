/-
  A log and all that a state has of it, by what there is and what goes back. Conditions: none.
-/
import Derived.Test.YtigmdfdcflkggaaGreatStPure
import Derived.Test.YtigmdfdcflkggaaGreatStMapV
import Derived.Test.YtigmdfdcflkggaaGreatStMapN
import Derived.Test.YtigmdfdcflkggaaGreatStMapW
import Derived.Test.YtigmdfdcflkggaaGreatStCellS
import Derived.Test.YtigmdfdcflkggaaGreatStCellG
namespace Go.Proofs.YtigmdfdcflkggaaGreat
open Go Go.RowKit Go.ChangeMaps

def gC (g : Gv) : List Value := [.slice g.A g.n g.c, .int .i64 g.a, .int .i64 g.i]
/-- Texts in a slice that nobody writes into. -/
def GvAt (w : World) (g : Gv) : Prop := g.l.length = g.n ∧ g.n ≤ g.c ∧ g.c ≤ maxLen ∧ (0 < g.n → ∃ b off cur, g.A = some ⟨b, off, none⟩ ∧ Blk w b cur 9 ∧ ∀ (j : Nat) x, g.l[j]? = some x → cur[off + j]? = some (.string x))
/-- The types of the blocks that are changed, besides the maps' own. -/
def PkT (t : TypeId) : Prop := LogT t ∨ t = 157 ∨ t = 144
def KeepB (w w' : World) : Prop := ∀ (b : Nat) cur t, Blk w b cur t → ¬ PkT t → Blk w' b cur t
theorem KeepB.trans {w w' w'' : World} (h : KeepB w w') (k : KeepB w' w'') : KeepB w w'' := fun b cur t hb ht => k b cur t (h b cur t hb ht) ht
theorem KeepB.of_below {w w' : World} (h : Below w.heap.size w w') : KeepB w w' := fun b cur t hb _ => (h.block b hb.lt).trans hb
theorem KeepB.of_fr {w w' : World} {B : Nat} (h : Fr B LogT (fun _ => False) w w') : KeepB w w' := fun b cur t hb ht => hb.fr h (fun e => ht (.inl e)) (fun e => e)
theorem KeepL.trans {w w' w'' : World} (h : KeepL w w') (k : KeepL w' w'') : KeepL w w'' := ⟨Nat.le_trans h.size k.size, fun b cur t f hb ht => by
  have e := h.keep b cur t f hb ht
  exact (k.keep b cur t f (e.trans hb) ht).trans e⟩
theorem nPk {t : TypeId} (h : (t != 101 && t != 112 && t != 1 && t != 114 && t != 157 && t != 144) = true) : ¬ PkT t := by
  intro e
  simp only [Bool.and_eq_true, bne_iff_ne] at h
  obtain ⟨⟨⟨⟨⟨h1, h2⟩, h3⟩, h4⟩, h5⟩, h6⟩ := h
  rcases e with (e | e | e | e) | e | e
  · exact h1 e
  · exact h2 e
  · exact h3 e
  · exact h4 e
  · exact h5 e
  · exact h6 e
theorem GvAt.keep {w w' : World} {g : Gv} (h : GvAt w g) (k : KeepB w w') : GvAt w' g :=
  ⟨h.1, h.2.1, h.2.2.1, fun hn => by
    obtain ⟨b, off, cur, e1, e2, e3⟩ := h.2.2.2 hn
    exact ⟨b, off, cur, e1, k _ _ _ e2 (nPk (by decide)), e3⟩⟩
/-- Where things lie. -/
structure Ad where
  l : Nat
  v : Nat
  f : Nat
  a : Nat
  t : Nat
  o : Nat
  g : Nat
  vo : Nat
  fo : Nat
  ao : Nat
  tu : Nat
def Ad.lo (a : Ad) : Option Addr := some ⟨a.l, 0, none⟩
def NoteAt (w : World) (a : Ad) (v : Value) : Nt → Prop
  | .v k x => MV.NoteAt w a.v v k x
  | .f k x => MN.NoteAt w a.f v k x
  | .a k x => MW.NoteAt w a.a v k x
  | .t k x => MW.NoteAt w a.t v k x
  | .o s => CS.NoteAt w a.o v [.string s]
  | .g x => CG.NoteAt w a.g v (gC x) ∧ GvAt w x
theorem MV.nt {t : TypeId} (h : MV.NoteT t) : ¬ PkT t := by
  rcases h with rfl | rfl | rfl | rfl <;> exact nPk (by decide)
theorem MN.nt {t : TypeId} (h : MN.NoteT t) : ¬ PkT t := by
  rcases h with rfl | rfl | rfl | rfl <;> exact nPk (by decide)
theorem MW.nt {t : TypeId} (h : MW.NoteT t) : ¬ PkT t := by
  rcases h with rfl | rfl | rfl | rfl <;> exact nPk (by decide)
theorem CS.nt {t : TypeId} (h : CS.NoteT t) : ¬ PkT t := by
  rcases h with rfl | rfl <;> exact nPk (by decide)
theorem CG.nt {t : TypeId} (h : CG.NoteT t) : ¬ PkT t := by
  rcases h with rfl | rfl <;> exact nPk (by decide)
theorem NoteAt.keep {w w' : World} {a : Ad} {v : Value} {n : Nt} (h : NoteAt w a v n) (k : KeepB w w') : NoteAt w' a v n := by
  cases n with
  | v key x => exact MV.NoteAt.keep h fun b cur t hb ht => k b cur t hb (MV.nt ht)
  | f key x => exact MN.NoteAt.keep h fun b cur t hb ht => k b cur t hb (MN.nt ht)
  | a key x => exact MW.NoteAt.keep h fun b cur t hb ht => k b cur t hb (MW.nt ht)
  | t key x => exact MW.NoteAt.keep h fun b cur t hb ht => k b cur t hb (MW.nt ht)
  | o s => exact CS.NoteAt.keep h fun b cur t hb ht => k b cur t hb (CS.nt ht)
  | g x => exact ⟨CG.NoteAt.keep h.1 fun b cur t hb ht => k b cur t hb (CG.nt ht), h.2.keep k⟩
/-- All objects of a state. -/
structure Objs (w : World) (B : Nat) (a : Ad) (st : Sta) (ev : Es Vr) (ef : Es Nd) (ea et : Es ByteArray) : Prop where
  mv : MapAt 148 encV w B a.v a.lo a.vo ev
  mf : MapAt 152 encN w B a.f a.lo a.fo ef
  ma : MapAt 155 encW w B a.a a.lo a.ao ea
  mt : MapAt 155 encW w B a.t a.lo a.tu et
  co : CellAt 157 w B a.o a.lo [.string st.o]
  cg : CellAt 144 w B a.g a.lo (gC st.g)
  lv : ∀ k, look ev k = st.v k
  lf : ∀ k, look ef k = st.f k
  la : ∀ k, look ea k = st.a k
  lt : ∀ k, look et k = st.t k
  ga : GvAt w st.g
  d : a.vo ≠ a.fo ∧ a.vo ≠ a.ao ∧ a.vo ≠ a.tu ∧ a.fo ≠ a.ao ∧ a.fo ≠ a.tu ∧ a.ao ≠ a.tu
/-- What a call may change. -/
def FrT (B : Nat) (a : Ad) (w w' : World) : Prop := Fr B PkT (fun b => b = a.vo ∨ b = a.fo ∨ b = a.ao ∨ b = a.tu) w w'
section
variable {w w' w'' : World} {B : Nat} {a : Ad} {st : Sta} {ev : Es Vr} {ef : Es Nd} {ea et : Es ByteArray}
theorem FrT.trans (h : FrT B a w w') (k : FrT B a w' w'') : FrT B a w w'' := Fr.trans h k
theorem FrT.log (h : Fr B LogT (fun _ => False) w w') : FrT B a w w' := h.mono (Nat.le_refl _) (fun _ h => .inl h) (fun _ _ h => h.elim)
theorem FrT.of_below (h : Below w.heap.size w w') : FrT B a w w' := Fr.of_below h
theorem FrT.blk (h : FrT B a w w') {b : Nat} {cur : List Value} {t : TypeId} (k : Blk w b cur t) (ht : ¬ PkT t) (hb : b ≠ a.vo ∧ b ≠ a.fo ∧ b ≠ a.ao ∧ b ≠ a.tu) : Blk w' b cur t := k.fr h ht (fun e => e.elim hb.1 fun e => e.elim hb.2.1 fun e => e.elim hb.2.2.1 hb.2.2.2)
theorem Objs.noObj (h : Objs w B a st ev ef ea et) {b : Nat} {cur : List Value} {t : TypeId} (k : Blk w b cur t) : b ≠ a.vo ∧ b ≠ a.fo ∧ b ≠ a.ao ∧ b ≠ a.tu :=
  ⟨fun e => h.mv.map.no_cells (e ▸ k), fun e => h.mf.map.no_cells (e ▸ k), fun e => h.ma.map.no_cells (e ▸ k), fun e => h.mt.map.no_cells (e ▸ k)⟩
theorem Objs.keepB (h : Objs w B a st ev ef ea et) (k : FrT B a w w') : KeepB w w' := fun b cur t hb ht => k.blk hb ht (h.noObj hb)
theorem Objs.log {B' : Nat} (h : Objs w B a st ev ef ea et) (k : Fr B' LogT (fun _ => False) w w') : Objs w' B a st ev ef ea et where
  mv := h.mv.fr k (fun hl => by rcases hl with hl | hl | hl | hl <;> exact absurd hl (by decide)) (fun _ h => h.elim)
  mf := h.mf.fr k (fun hl => by rcases hl with hl | hl | hl | hl <;> exact absurd hl (by decide)) (fun _ h => h.elim)
  ma := h.ma.fr k (fun hl => by rcases hl with hl | hl | hl | hl <;> exact absurd hl (by decide)) (fun _ h => h.elim)
  mt := h.mt.fr k (fun hl => by rcases hl with hl | hl | hl | hl <;> exact absurd hl (by decide)) (fun _ h => h.elim)
  co := h.co.fr k (fun hl => by rcases hl with hl | hl | hl | hl <;> exact absurd hl (by decide)) (fun h => h)
  cg := h.cg.fr k (fun hl => by rcases hl with hl | hl | hl | hl <;> exact absurd hl (by decide)) (fun h => h)
  lv := h.lv
  lf := h.lf
  la := h.la
  lt := h.lt
  ga := h.ga.keep (KeepB.of_fr k)
  d := h.d
theorem Objs.below (h : Objs w B a st ev ef ea et) (k : Below w.heap.size w w') : Objs w' B a st ev ef ea et where
  mv := h.mv.below k
  mf := h.mf.below k
  ma := h.ma.below k
  mt := h.mt.below k
  co := h.co.below k
  cg := h.cg.below k
  lv := h.lv
  lf := h.lf
  la := h.la
  lt := h.lt
  ga := h.ga.keep (KeepB.of_below k)
  d := h.d
theorem Objs.keepOfv (h : Objs w B a st ev ef ea et) (hS : Stp (fun b => b = a.vo) w w') : KeepB w w' := fun b cur t hb _ => hb.stp hS (fun e => h.mv.map.no_cells (e ▸ hb))
theorem Objs.keepLOfv (h : Objs w B a st ev ef ea et) (hS : Stp (fun b => b = a.vo) w w') : KeepL w w' := ⟨hS.size, fun b _ _ _ hb _ => hS.block b (Array.getElem?_eq_some_iff.1 hb).1 (fun e => h.mv.map.no_cells (e ▸ hb))⟩
theorem Objs.frOfv (h : Objs w B a st ev ef ea et) (hS : Stp (fun b => b = a.vo) w w') : FrT B a w w' := Fr.of_stp hS fun b _ hb => by subst hb; exact ⟨h.mv.hO, .inl (.inl rfl)⟩
theorem Objs.setv {ev' : Es Vr} {f' : ByteArray → Option Vr} (h : Objs w B a st ev ef ea et) (hS : Stp (fun b => b = a.vo) w w') (hM : MapAt 148 encV w' B a.v a.lo a.vo ev') (hl : ∀ k, look ev' k = f' k) : Objs w' B a { st with v := f' } ev' ef ea et where
  mv := hM
  mf := h.mf.keep (hS.block _ h.mf.blk.lt (fun e => h.mv.map.no_cells (by have := h.mf.blk; rw [e] at this; exact this))) (hS.block _ h.mf.map.lt (Ne.symm h.d.1))
  ma := h.ma.keep (hS.block _ h.ma.blk.lt (fun e => h.mv.map.no_cells (by have := h.ma.blk; rw [e] at this; exact this))) (hS.block _ h.ma.map.lt (Ne.symm h.d.2.1))
  mt := h.mt.keep (hS.block _ h.mt.blk.lt (fun e => h.mv.map.no_cells (by have := h.mt.blk; rw [e] at this; exact this))) (hS.block _ h.mt.map.lt (Ne.symm h.d.2.2.1))
  co := ⟨h.co.hB, h.co.blk.stp hS (fun e => h.mv.map.no_cells (by have := h.co.blk; rw [e] at this; exact this))⟩
  cg := ⟨h.cg.hB, h.cg.blk.stp hS (fun e => h.mv.map.no_cells (by have := h.cg.blk; rw [e] at this; exact this))⟩
  lv := hl
  lf := h.lf
  la := h.la
  lt := h.lt
  ga := h.ga.keep (h.keepOfv hS)
  d := h.d
theorem Objs.keepOff (h : Objs w B a st ev ef ea et) (hS : Stp (fun b => b = a.fo) w w') : KeepB w w' := fun b cur t hb _ => hb.stp hS (fun e => h.mf.map.no_cells (e ▸ hb))
theorem Objs.keepLOff (h : Objs w B a st ev ef ea et) (hS : Stp (fun b => b = a.fo) w w') : KeepL w w' := ⟨hS.size, fun b _ _ _ hb _ => hS.block b (Array.getElem?_eq_some_iff.1 hb).1 (fun e => h.mf.map.no_cells (e ▸ hb))⟩
theorem Objs.frOff (h : Objs w B a st ev ef ea et) (hS : Stp (fun b => b = a.fo) w w') : FrT B a w w' := Fr.of_stp hS fun b _ hb => by subst hb; exact ⟨h.mf.hO, .inl (.inr (.inl rfl))⟩
theorem Objs.setf {ef' : Es Nd} {f' : ByteArray → Option Nd} (h : Objs w B a st ev ef ea et) (hS : Stp (fun b => b = a.fo) w w') (hM : MapAt 152 encN w' B a.f a.lo a.fo ef') (hl : ∀ k, look ef' k = f' k) : Objs w' B a { st with f := f' } ev ef' ea et where
  mv := h.mv.keep (hS.block _ h.mv.blk.lt (fun e => h.mf.map.no_cells (by have := h.mv.blk; rw [e] at this; exact this))) (hS.block _ h.mv.map.lt h.d.1)
  mf := hM
  ma := h.ma.keep (hS.block _ h.ma.blk.lt (fun e => h.mf.map.no_cells (by have := h.ma.blk; rw [e] at this; exact this))) (hS.block _ h.ma.map.lt (Ne.symm h.d.2.2.2.1))
  mt := h.mt.keep (hS.block _ h.mt.blk.lt (fun e => h.mf.map.no_cells (by have := h.mt.blk; rw [e] at this; exact this))) (hS.block _ h.mt.map.lt (Ne.symm h.d.2.2.2.2.1))
  co := ⟨h.co.hB, h.co.blk.stp hS (fun e => h.mf.map.no_cells (by have := h.co.blk; rw [e] at this; exact this))⟩
  cg := ⟨h.cg.hB, h.cg.blk.stp hS (fun e => h.mf.map.no_cells (by have := h.cg.blk; rw [e] at this; exact this))⟩
  lv := h.lv
  lf := hl
  la := h.la
  lt := h.lt
  ga := h.ga.keep (h.keepOff hS)
  d := h.d
theorem Objs.keepOfa (h : Objs w B a st ev ef ea et) (hS : Stp (fun b => b = a.ao) w w') : KeepB w w' := fun b cur t hb _ => hb.stp hS (fun e => h.ma.map.no_cells (e ▸ hb))
theorem Objs.keepLOfa (h : Objs w B a st ev ef ea et) (hS : Stp (fun b => b = a.ao) w w') : KeepL w w' := ⟨hS.size, fun b _ _ _ hb _ => hS.block b (Array.getElem?_eq_some_iff.1 hb).1 (fun e => h.ma.map.no_cells (e ▸ hb))⟩
theorem Objs.frOfa (h : Objs w B a st ev ef ea et) (hS : Stp (fun b => b = a.ao) w w') : FrT B a w w' := Fr.of_stp hS fun b _ hb => by subst hb; exact ⟨h.ma.hO, .inl (.inr (.inr (.inl rfl)))⟩
theorem Objs.seta {ea' : Es ByteArray} {f' : ByteArray → Option ByteArray} (h : Objs w B a st ev ef ea et) (hS : Stp (fun b => b = a.ao) w w') (hM : MapAt 155 encW w' B a.a a.lo a.ao ea') (hl : ∀ k, look ea' k = f' k) : Objs w' B a { st with a := f' } ev ef ea' et where
  mv := h.mv.keep (hS.block _ h.mv.blk.lt (fun e => h.ma.map.no_cells (by have := h.mv.blk; rw [e] at this; exact this))) (hS.block _ h.mv.map.lt h.d.2.1)
  mf := h.mf.keep (hS.block _ h.mf.blk.lt (fun e => h.ma.map.no_cells (by have := h.mf.blk; rw [e] at this; exact this))) (hS.block _ h.mf.map.lt h.d.2.2.2.1)
  ma := hM
  mt := h.mt.keep (hS.block _ h.mt.blk.lt (fun e => h.ma.map.no_cells (by have := h.mt.blk; rw [e] at this; exact this))) (hS.block _ h.mt.map.lt (Ne.symm h.d.2.2.2.2.2))
  co := ⟨h.co.hB, h.co.blk.stp hS (fun e => h.ma.map.no_cells (by have := h.co.blk; rw [e] at this; exact this))⟩
  cg := ⟨h.cg.hB, h.cg.blk.stp hS (fun e => h.ma.map.no_cells (by have := h.cg.blk; rw [e] at this; exact this))⟩
  lv := h.lv
  lf := h.lf
  la := hl
  lt := h.lt
  ga := h.ga.keep (h.keepOfa hS)
  d := h.d
theorem Objs.keepOft (h : Objs w B a st ev ef ea et) (hS : Stp (fun b => b = a.tu) w w') : KeepB w w' := fun b cur t hb _ => hb.stp hS (fun e => h.mt.map.no_cells (e ▸ hb))
theorem Objs.keepLOft (h : Objs w B a st ev ef ea et) (hS : Stp (fun b => b = a.tu) w w') : KeepL w w' := ⟨hS.size, fun b _ _ _ hb _ => hS.block b (Array.getElem?_eq_some_iff.1 hb).1 (fun e => h.mt.map.no_cells (e ▸ hb))⟩
theorem Objs.frOft (h : Objs w B a st ev ef ea et) (hS : Stp (fun b => b = a.tu) w w') : FrT B a w w' := Fr.of_stp hS fun b _ hb => by subst hb; exact ⟨h.mt.hO, .inl (.inr (.inr (.inr rfl)))⟩
theorem Objs.sett {et' : Es ByteArray} {f' : ByteArray → Option ByteArray} (h : Objs w B a st ev ef ea et) (hS : Stp (fun b => b = a.tu) w w') (hM : MapAt 155 encW w' B a.t a.lo a.tu et') (hl : ∀ k, look et' k = f' k) : Objs w' B a { st with t := f' } ev ef ea et' where
  mv := h.mv.keep (hS.block _ h.mv.blk.lt (fun e => h.mt.map.no_cells (by have := h.mv.blk; rw [e] at this; exact this))) (hS.block _ h.mv.map.lt h.d.2.2.1)
  mf := h.mf.keep (hS.block _ h.mf.blk.lt (fun e => h.mt.map.no_cells (by have := h.mf.blk; rw [e] at this; exact this))) (hS.block _ h.mf.map.lt h.d.2.2.2.2.1)
  ma := h.ma.keep (hS.block _ h.ma.blk.lt (fun e => h.mt.map.no_cells (by have := h.ma.blk; rw [e] at this; exact this))) (hS.block _ h.ma.map.lt h.d.2.2.2.2.2)
  mt := hM
  co := ⟨h.co.hB, h.co.blk.stp hS (fun e => h.mt.map.no_cells (by have := h.co.blk; rw [e] at this; exact this))⟩
  cg := ⟨h.cg.hB, h.cg.blk.stp hS (fun e => h.mt.map.no_cells (by have := h.cg.blk; rw [e] at this; exact this))⟩
  lv := h.lv
  lf := h.lf
  la := h.la
  lt := hl
  ga := h.ga.keep (h.keepOft hS)
  d := h.d
theorem Objs.keepOfo (h : Objs w B a st ev ef ea et) (hS : Stp (fun b => b = a.o) w w') : KeepB w w' := fun b cur t hb ht => hb.stp hS (fun e => ht (by
  subst e
  have e2 := h.co.blk.symm.trans hb
  simp only [Option.some.injEq, Obj.cells.injEq] at e2
  rw [← e2.2.1]
  exact .inr (.inl rfl)))
theorem Objs.keepLOfo (h : Objs w B a st ev ef ea et) (hS : Stp (fun b => b = a.o) w w') : KeepL w w' := ⟨hS.size, fun b _ _ _ hb ht => hS.block b (Array.getElem?_eq_some_iff.1 hb).1 (fun e => by
  subst e
  have e2 := h.co.blk.symm.trans hb
  simp only [Option.some.injEq, Obj.cells.injEq] at e2
  rw [← e2.2.1] at ht
  rcases ht with ht | ht | ht | ht <;> exact absurd ht (by decide))⟩
theorem Objs.frOfo (h : Objs w B a st ev ef ea et) (hS : Stp (fun b => b = a.o) w w') : FrT B a w w' := Fr.of_stp hS fun b _ hb => by subst hb; exact ⟨h.co.hB, .inr ⟨_, _, _, h.co.blk, .inr (.inl rfl)⟩⟩
theorem Objs.seto {s' : ByteArray} (h : Objs w B a st ev ef ea et) (hS : Stp (fun b => b = a.o) w w') (hC : CellAt 157 w' B a.o a.lo [.string s']) : Objs w' B a { st with o := s' } ev ef ea et where
  mv := h.mv.keep (hS.block _ h.mv.blk.lt (fun e => (h.mv.blk.ne h.co.blk (by decide)) e)) (hS.block _ h.mv.map.lt (fun e => h.mv.map.no_cells (by have := h.co.blk; rw [← e] at this; exact this)))
  mf := h.mf.keep (hS.block _ h.mf.blk.lt (fun e => (h.mf.blk.ne h.co.blk (by decide)) e)) (hS.block _ h.mf.map.lt (fun e => h.mf.map.no_cells (by have := h.co.blk; rw [← e] at this; exact this)))
  ma := h.ma.keep (hS.block _ h.ma.blk.lt (fun e => (h.ma.blk.ne h.co.blk (by decide)) e)) (hS.block _ h.ma.map.lt (fun e => h.ma.map.no_cells (by have := h.co.blk; rw [← e] at this; exact this)))
  mt := h.mt.keep (hS.block _ h.mt.blk.lt (fun e => (h.mt.blk.ne h.co.blk (by decide)) e)) (hS.block _ h.mt.map.lt (fun e => h.mt.map.no_cells (by have := h.co.blk; rw [← e] at this; exact this)))
  co := hC
  cg := ⟨h.cg.hB, h.cg.blk.stp hS (fun e => (h.cg.blk.ne h.co.blk (by decide)) e)⟩
  lv := h.lv
  lf := h.lf
  la := h.la
  lt := h.lt
  ga := h.ga.keep (h.keepOfo hS)
  d := h.d
theorem Objs.keepOfg (h : Objs w B a st ev ef ea et) (hS : Stp (fun b => b = a.g) w w') : KeepB w w' := fun b cur t hb ht => hb.stp hS (fun e => ht (by
  subst e
  have e2 := h.cg.blk.symm.trans hb
  simp only [Option.some.injEq, Obj.cells.injEq] at e2
  rw [← e2.2.1]
  exact .inr (.inr rfl)))
theorem Objs.keepLOfg (h : Objs w B a st ev ef ea et) (hS : Stp (fun b => b = a.g) w w') : KeepL w w' := ⟨hS.size, fun b _ _ _ hb ht => hS.block b (Array.getElem?_eq_some_iff.1 hb).1 (fun e => by
  subst e
  have e2 := h.cg.blk.symm.trans hb
  simp only [Option.some.injEq, Obj.cells.injEq] at e2
  rw [← e2.2.1] at ht
  rcases ht with ht | ht | ht | ht <;> exact absurd ht (by decide))⟩
theorem Objs.frOfg (h : Objs w B a st ev ef ea et) (hS : Stp (fun b => b = a.g) w w') : FrT B a w w' := Fr.of_stp hS fun b _ hb => by subst hb; exact ⟨h.cg.hB, .inr ⟨_, _, _, h.cg.blk, .inr (.inr rfl)⟩⟩
theorem Objs.setg {s' : Gv} (h : Objs w B a st ev ef ea et) (hS : Stp (fun b => b = a.g) w w') (hC : CellAt 144 w' B a.g a.lo (gC s')) (hg : GvAt w' s') : Objs w' B a { st with g := s' } ev ef ea et where
  mv := h.mv.keep (hS.block _ h.mv.blk.lt (fun e => (h.mv.blk.ne h.cg.blk (by decide)) e)) (hS.block _ h.mv.map.lt (fun e => h.mv.map.no_cells (by have := h.cg.blk; rw [← e] at this; exact this)))
  mf := h.mf.keep (hS.block _ h.mf.blk.lt (fun e => (h.mf.blk.ne h.cg.blk (by decide)) e)) (hS.block _ h.mf.map.lt (fun e => h.mf.map.no_cells (by have := h.cg.blk; rw [← e] at this; exact this)))
  ma := h.ma.keep (hS.block _ h.ma.blk.lt (fun e => (h.ma.blk.ne h.cg.blk (by decide)) e)) (hS.block _ h.ma.map.lt (fun e => h.ma.map.no_cells (by have := h.cg.blk; rw [← e] at this; exact this)))
  mt := h.mt.keep (hS.block _ h.mt.blk.lt (fun e => (h.mt.blk.ne h.cg.blk (by decide)) e)) (hS.block _ h.mt.map.lt (fun e => h.mt.map.no_cells (by have := h.cg.blk; rw [← e] at this; exact this)))
  cg := hC
  co := ⟨h.co.hB, h.co.blk.stp hS (fun e => (h.co.blk.ne h.cg.blk (by decide)) e)⟩
  lv := h.lv
  lf := h.lf
  la := h.la
  lt := h.lt
  ga := hg
  d := h.d
end
def ThAt (w : World) (B : Nat) (a : Ad) (pot : Nat) (t : Tg) : Prop :=
  ∃ ms fs ev ef ea et, LogAt w B a.l t.most t.nest ms fs t.ns.length ∧ Objs w B a t.cur ev ef ea et ∧ fs.length = t.ns.length ∧
    (∀ (i : Nat) (n : Nt), t.ns[i]? = some n → ∃ v, fs[i]? = some v ∧ NoteAt w a v n) ∧ ms.map (fun m => (m.notes, m.count)) = t.was.map (fun p => (p.1, p.1)) ∧ t.Good ∧ ev.length + ef.length + ea.length + et.length + t.ns.length ≤ pot
section
variable {w w' w'' : World} {B : Nat} {a : Ad} {pot : Nat} {t : Tg}
theorem ThAt.mono (h : ThAt w B a pot t) {pot' : Nat} (hp : pot ≤ pot') : ThAt w B a pot' t := by
  obtain ⟨ms, fs, ev, ef, ea, et, h1, h2, h5, h6, h7, h8, h9⟩ := h
  exact ⟨ms, fs, ev, ef, ea, et, h1, h2, h5, h6, h7, h8, by omega⟩
theorem ThAt.below (h : ThAt w B a pot t) (k : Below w.heap.size w w') : ThAt w' B a pot t := by
  obtain ⟨ms, fs, ev, ef, ea, et, h1, h2, h5, h6, h7, h8, h9⟩ := h
  refine ⟨ms, fs, ev, ef, ea, et, h1.keep (KeepL.of_below k), h2.below k, h5, fun i n hi => ?_, h7, h8, h9⟩
  obtain ⟨v, hv, hn⟩ := h6 i n hi
  exact ⟨v, hv, hn.keep (KeepB.of_below k)⟩
theorem ThAt.good (h : ThAt w B a pot t) : t.Good := by obtain ⟨_, _, _, _, _, _, _, _, _, _, _, h, _⟩ := h; exact h
theorem ThAt.hB (h : ThAt w B a pot t) : B ≤ w.heap.size := by
  obtain ⟨_, _, _, _, _, _, h, _⟩ := h
  have := h.lt
  obtain ⟨_, _, h⟩ := h
  have := h.hB
  omega
theorem ThAt.keepB (h : ThAt w B a pot t) (k : FrT B a w w') : KeepB w w' := by
  obtain ⟨_, _, _, _, _, _, _, h2, _⟩ := h
  exact h2.keepB k
theorem th_len {ms : List Mk} {l : List (Nat × Sta)} (h : ms.map (fun m => (m.notes, m.count)) = l.map (fun p => (p.1, p.1))) : ms.length = l.length := by
  have := congrArg List.length h
  simpa using this
theorem drewN_below (w : World) (n : Nat) : Below w.heap.size w (w.drewN n) := ⟨rfl, rfl, rfl, Nat.le_refl _, fun _ _ => rfl⟩
end
end Go.Proofs.YtigmdfdcflkggaaGreat
