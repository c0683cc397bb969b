/-
  A log and all that a state has of it, by what there is and what goes back. Conditions: none.
-/
import Derived.Test.YtigmdfdcflkggaaGreatZp1
import Derived.Test.YtigmdfdcflkggaaGreatZp2
import Derived.Test.YtigmdfdcflkggaaGreatZp3
import Derived.Test.YtigmdfdcflkggaaGreatZp4
namespace Go.Proofs.YtigmdfdcflkggaaGreat
open Go Go.RowKit Go.ChangeMaps

def gC (g : Gv) : List Value := [.slice g.A g.n g.c, .int .i64 g.a, .int .i64 g.i]
/-- Texts in a slice that nobody writes into. -/
def GvAt (w : World) (g : Gv) : Prop := g.l.length = g.n ∧ g.n ≤ g.c ∧ g.c ≤ maxLen ∧ (0 < g.n → ∃ b off cur, g.A = some ⟨b, off, none⟩ ∧ Blk w b cur 9 ∧ ∀ (j : Nat) x, g.l[j]? = some x → cur[off + j]? = some (.string x))
/-- The types of the blocks that are changed, besides the maps' own. -/
def PkT (t : TypeId) : Prop := LogT t ∨ t = 157 ∨ t = 144
def KeepB (w w' : World) : Prop := ∀ (b : Nat) cur t, Blk w b cur t → ¬ PkT t → Blk w' b cur t
theorem KeepB.trans {w w' w'' : World} (h : KeepB w w') (k : KeepB w' w'') : KeepB w w'' := fun b cur t hb ht => k b cur t (h b cur t hb ht) ht
theorem KeepB.of_below {w w' : World} (h : Below w.heap.size w w') : KeepB w w' := fun b cur t hb _ => (h.block b hb.lt).trans hb
theorem KeepB.of_fr {w w' : World} {B : Nat} (h : Fr B LogT (fun _ => False) w w') : KeepB w w' := fun b cur t hb ht => hb.fr h (fun e => ht (.inl e)) (fun e => e)
theorem nPk {t : TypeId} (h : (t != 101 && t != 112 && t != 1 && t != 114 && t != 157 && t != 144) = true) : ¬ PkT t := by
  intro e
  simp only [Bool.and_eq_true, bne_iff_ne] at h
  obtain ⟨⟨⟨⟨⟨h1, h2⟩, h3⟩, h4⟩, h5⟩, h6⟩ := h
  rcases e with (e | e | e | e) | e | e
  · exact h1 e
  · exact h2 e
  · exact h3 e
  · exact h4 e
  · exact h5 e
  · exact h6 e
theorem GvAt.keep {w w' : World} {g : Gv} (h : GvAt w g) (k : KeepB w w') : GvAt w' g :=
  ⟨h.1, h.2.1, h.2.2.1, fun hn => by
    obtain ⟨b, off, cur, e1, e2, e3⟩ := h.2.2.2 hn
    exact ⟨b, off, cur, e1, k _ _ _ e2 (nPk (by decide)), e3⟩⟩
/-- Where things lie. -/
structure Ad where
  l : Nat
  v : Nat
  f : Nat
  a : Nat
  t : Nat
  o : Nat
  g : Nat
  vo : Nat
  fo : Nat
  ao : Nat
  tu : Nat
def Ad.lo (a : Ad) : Option Addr := some ⟨a.l, 0, none⟩
def NoteAt (w : World) (a : Ad) (v : Value) : Nt → Prop
  | .v k x => MV.NoteAt w a.v v k x
  | .f k x => MN.NoteAt w a.f v k x
  | .a k x => MW.NoteAt w a.a v k x
  | .t k x => MW.NoteAt w a.t v k x
  | .o s => CS.NoteAt w a.o v [.string s]
  | .g x => CG.NoteAt w a.g v (gC x) ∧ GvAt w x
theorem MV.nt {t : TypeId} (h : MV.NoteT t) : ¬ PkT t := by
  rcases h with rfl | rfl | rfl | rfl <;> exact nPk (by decide)
theorem MN.nt {t : TypeId} (h : MN.NoteT t) : ¬ PkT t := by
  rcases h with rfl | rfl | rfl | rfl <;> exact nPk (by decide)
theorem MW.nt {t : TypeId} (h : MW.NoteT t) : ¬ PkT t := by
  rcases h with rfl | rfl | rfl | rfl <;> exact nPk (by decide)
theorem CS.nt {t : TypeId} (h : CS.NoteT t) : ¬ PkT t := by
  rcases h with rfl | rfl <;> exact nPk (by decide)
theorem CG.nt {t : TypeId} (h : CG.NoteT t) : ¬ PkT t := by
  rcases h with rfl | rfl <;> exact nPk (by decide)
theorem NoteAt.keep {w w' : World} {a : Ad} {v : Value} {n : Nt} (h : NoteAt w a v n) (k : KeepB w w') : NoteAt w' a v n := by
  cases n with
  | v key x => exact MV.NoteAt.keep h fun b cur t hb ht => k b cur t hb (MV.nt ht)
  | f key x => exact MN.NoteAt.keep h fun b cur t hb ht => k b cur t hb (MN.nt ht)
  | a key x => exact MW.NoteAt.keep h fun b cur t hb ht => k b cur t hb (MW.nt ht)
  | t key x => exact MW.NoteAt.keep h fun b cur t hb ht => k b cur t hb (MW.nt ht)
  | o s => exact CS.NoteAt.keep h fun b cur t hb ht => k b cur t hb (CS.nt ht)
  | g x => exact ⟨CG.NoteAt.keep h.1 fun b cur t hb ht => k b cur t hb (CG.nt ht), h.2.keep k⟩
/-- All objects of a state. -/
structure Objs (w : World) (B : Nat) (a : Ad) (st : Sta) (ev : Es Vr) (ef : Es Nd) (ea et : Es ByteArray) : Prop where
  mv : MapAt 148 encV w B a.v a.lo a.vo ev
  mf : MapAt 152 encN w B a.f a.lo a.fo ef
  ma : MapAt 155 encW w B a.a a.lo a.ao ea
  mt : MapAt 155 encW w B a.t a.lo a.tu et
  co : CellAt 157 w B a.o a.lo [.string st.o]
  cg : CellAt 144 w B a.g a.lo (gC st.g)
  lv : ∀ k, look ev k = st.v k
  lf : ∀ k, look ef k = st.f k
  la : ∀ k, look ea k = st.a k
  lt : ∀ k, look et k = st.t k
  ga : GvAt w st.g
  d : a.vo ≠ a.fo ∧ a.vo ≠ a.ao ∧ a.vo ≠ a.tu ∧ a.fo ≠ a.ao ∧ a.fo ≠ a.tu ∧ a.ao ≠ a.tu
/-- What a call may change. -/
def FrT (B : Nat) (a : Ad) (w w' : World) : Prop := Fr B PkT (fun b => b = a.vo ∨ b = a.fo ∨ b = a.ao ∨ b = a.tu) w w'
section
variable {w w' w'' : World} {B : Nat} {a : Ad} {st : Sta} {ev : Es Vr} {ef : Es Nd} {ea et : Es ByteArray}
theorem FrT.trans (h : FrT B a w w') (k : FrT B a w' w'') : FrT B a w w'' := Fr.trans h k
theorem FrT.log (h : Fr B LogT (fun _ => False) w w') : FrT B a w w' := h.mono (Nat.le_refl _) (fun _ h => .inl h) (fun _ _ h => h.elim)
theorem FrT.of_below (h : Below w.heap.size w w') : FrT B a w w' := Fr.of_below h
theorem FrT.blk (h : FrT B a w w') {b : Nat} {cur : List Value} {t : TypeId} (k : Blk w b cur t) (ht : ¬ PkT t) (hb : b ≠ a.vo ∧ b ≠ a.fo ∧ b ≠ a.ao ∧ b ≠ a.tu) : Blk w' b cur t := k.fr h ht (fun e => e.elim hb.1 fun e => e.elim hb.2.1 fun e => e.elim hb.2.2.1 hb.2.2.2)
theorem Objs.noObj (h : Objs w B a st ev ef ea et) {b : Nat} {cur : List Value} {t : TypeId} (k : Blk w b cur t) : b ≠ a.vo ∧ b ≠ a.fo ∧ b ≠ a.ao ∧ b ≠ a.tu :=
  ⟨fun e => h.mv.map.no_cells (e ▸ k), fun e => h.mf.map.no_cells (e ▸ k), fun e => h.ma.map.no_cells (e ▸ k), fun e => h.mt.map.no_cells (e ▸ k)⟩
theorem Objs.keepB (h : Objs w B a st ev ef ea et) (k : FrT B a w w') : KeepB w w' := fun b cur t hb ht => k.blk hb ht (h.noObj hb)
theorem Objs.log {B' : Nat} (h : Objs w B a st ev ef ea et) (k : Fr B' LogT (fun _ => False) w w') : Objs w' B a st ev ef ea et where
  mv := h.mv.fr k (fun hl => by rcases hl with hl | hl | hl | hl <;> exact absurd hl (by decide)) (fun _ h => h.elim)
  mf := h.mf.fr k (fun hl => by rcases hl with hl | hl | hl | hl <;> exact absurd hl (by decide)) (fun _ h => h.elim)
  ma := h.ma.fr k (fun hl => by rcases hl with hl | hl | hl | hl <;> exact absurd hl (by decide)) (fun _ h => h.elim)
  mt := h.mt.fr k (fun hl => by rcases hl with hl | hl | hl | hl <;> exact absurd hl (by decide)) (fun _ h => h.elim)
  co := h.co.fr k (fun hl => by rcases hl with hl | hl | hl | hl <;> exact absurd hl (by decide)) (fun h => h)
  cg := h.cg.fr k (fun hl => by rcases hl with hl | hl | hl | hl <;> exact absurd hl (by decide)) (fun h => h)
  lv := h.lv
  lf := h.lf
  la := h.la
  lt := h.lt
  ga := h.ga.keep (KeepB.of_fr k)
  d := h.d
theorem Objs.below (h : Objs w B a st ev ef ea et) (k : Below w.heap.size w w') : Objs w' B a st ev ef ea et where
  mv := h.mv.below k
  mf := h.mf.below k
  ma := h.ma.below k
  mt := h.mt.below k
  co := h.co.below k
  cg := h.cg.below k
  lv := h.lv
  lf := h.lf
  la := h.la
  lt := h.lt
  ga := h.ga.keep (KeepB.of_below k)
  d := h.d
theorem Objs.keepOfv (h : Objs w B a st ev ef ea et) (hS : Stp (fun b => b = a.vo) w w') : KeepB w w' := fun b cur t hb _ => hb.stp hS (fun e => h.mv.map.no_cells (e ▸ hb))
theorem Objs.keepLOfv (h : Objs w B a st ev ef ea et) (hS : Stp (fun b => b = a.vo) w w') : KeepL w w' := ⟨hS.size, fun b _ _ _ hb _ => hS.block b (Array.getElem?_eq_some_iff.1 hb).1 (fun e => h.mv.map.no_cells (e ▸ hb))⟩
theorem Objs.frOfv (h : Objs w B a st ev ef ea et) (hS : Stp (fun b => b = a.vo) w w') : FrT B a w w' := Fr.of_stp hS fun b _ hb => by subst hb; exact ⟨h.mv.hO, .inl (.inl rfl)⟩
theorem Objs.setv {ev' : Es Vr} {f' : ByteArray → Option Vr} (h : Objs w B a st ev ef ea et) (hS : Stp (fun b => b = a.vo) w w') (hM : MapAt 148 encV w' B a.v a.lo a.vo ev') (hl : ∀ k, look ev' k = f' k) : Objs w' B a { st with v := f' } ev' ef ea et where
  mv := hM
  mf := h.mf.keep (hS.block _ h.mf.blk.lt (fun e => h.mv.map.no_cells (by have := h.mf.blk; rw [e] at this; exact this))) (hS.block _ h.mf.map.lt (Ne.symm h.d.1))
  ma := h.ma.keep (hS.block _ h.ma.blk.lt (fun e => h.mv.map.no_cells (by have := h.ma.blk; rw [e] at this; exact this))) (hS.block _ h.ma.map.lt (Ne.symm h.d.2.1))
  mt := h.mt.keep (hS.block _ h.mt.blk.lt (fun e => h.mv.map.no_cells (by have := h.mt.blk; rw [e] at this; exact this))) (hS.block _ h.mt.map.lt (Ne.symm h.d.2.2.1))
  co := ⟨h.co.hB, h.co.blk.stp hS (fun e => h.mv.map.no_cells (by have := h.co.blk; rw [e] at this; exact this))⟩
  cg := ⟨h.cg.hB, h.cg.blk.stp hS (fun e => h.mv.map.no_cells (by have := h.cg.blk; rw [e] at this; exact this))⟩
  lv := hl
  lf := h.lf
  la := h.la
  lt := h.lt
  ga := h.ga.keep (h.keepOfv hS)
  d := h.d
theorem Objs.keepOff (h : Objs w B a st ev ef ea et) (hS : Stp (fun b => b = a.fo) w w') : KeepB w w' := fun b cur t hb _ => hb.stp hS (fun e => h.mf.map.no_cells (e ▸ hb))
theorem Objs.keepLOff (h : Objs w B a st ev ef ea et) (hS : Stp (fun b => b = a.fo) w w') : KeepL w w' := ⟨hS.size, fun b _ _ _ hb _ => hS.block b (Array.getElem?_eq_some_iff.1 hb).1 (fun e => h.mf.map.no_cells (e ▸ hb))⟩
theorem Objs.frOff (h : Objs w B a st ev ef ea et) (hS : Stp (fun b => b = a.fo) w w') : FrT B a w w' := Fr.of_stp hS fun b _ hb => by subst hb; exact ⟨h.mf.hO, .inl (.inr (.inl rfl))⟩
theorem Objs.setf {ef' : Es Nd} {f' : ByteArray → Option Nd} (h : Objs w B a st ev ef ea et) (hS : Stp (fun b => b = a.fo) w w') (hM : MapAt 152 encN w' B a.f a.lo a.fo ef') (hl : ∀ k, look ef' k = f' k) : Objs w' B a { st with f := f' } ev ef' ea et where
  mv := h.mv.keep (hS.block _ h.mv.blk.lt (fun e => h.mf.map.no_cells (by have := h.mv.blk; rw [e] at this; exact this))) (hS.block _ h.mv.map.lt h.d.1)
  mf := hM
  ma := h.ma.keep (hS.block _ h.ma.blk.lt (fun e => h.mf.map.no_cells (by have := h.ma.blk; rw [e] at this; exact this))) (hS.block _ h.ma.map.lt (Ne.symm h.d.2.2.2.1))
  mt := h.mt.keep (hS.block _ h.mt.blk.lt (fun e => h.mf.map.no_cells (by have := h.mt.blk; rw [e] at this; exact this))) (hS.block _ h.mt.map.lt (Ne.symm h.d.2.2.2.2.1))
  co := ⟨h.co.hB, h.co.blk.stp hS (fun e => h.mf.map.no_cells (by have := h.co.blk; rw [e] at this; exact this))⟩
  cg := ⟨h.cg.hB, h.cg.blk.stp hS (fun e => h.mf.map.no_cells (by have := h.cg.blk; rw [e] at this; exact this))⟩
  lv := h.lv
  lf := hl
  la := h.la
  lt := h.lt
  ga := h.ga.keep (h.keepOff hS)
  d := h.d
theorem Objs.keepOfa (h : Objs w B a st ev ef ea et) (hS : Stp (fun b => b = a.ao) w w') : KeepB w w' := fun b cur t hb _ => hb.stp hS (fun e => h.ma.map.no_cells (e ▸ hb))
theorem Objs.keepLOfa (h : Objs w B a st ev ef ea et) (hS : Stp (fun b => b = a.ao) w w') : KeepL w w' := ⟨hS.size, fun b _ _ _ hb _ => hS.block b (Array.getElem?_eq_some_iff.1 hb).1 (fun e => h.ma.map.no_cells (e ▸ hb))⟩
theorem Objs.frOfa (h : Objs w B a st ev ef ea et) (hS : Stp (fun b => b = a.ao) w w') : FrT B a w w' := Fr.of_stp hS fun b _ hb => by subst hb; exact ⟨h.ma.hO, .inl (.inr (.inr (.inl rfl)))⟩
theorem Objs.seta {ea' : Es ByteArray} {f' : ByteArray → Option ByteArray} (h : Objs w B a st ev ef ea et) (hS : Stp (fun b => b = a.ao) w w') (hM : MapAt 155 encW w' B a.a a.lo a.ao ea') (hl : ∀ k, look ea' k = f' k) : Objs w' B a { st with a := f' } ev ef ea' et where
  mv := h.mv.keep (hS.block _ h.mv.blk.lt (fun e => h.ma.map.no_cells (by have := h.mv.blk; rw [e] at this; exact this))) (hS.block _ h.mv.map.lt h.d.2.1)
  mf := h.mf.keep (hS.block _ h.mf.blk.lt (fun e => h.ma.map.no_cells (by have := h.mf.blk; rw [e] at this; exact this))) (hS.block _ h.mf.map.lt h.d.2.2.2.1)
  ma := hM
  mt := h.mt.keep (hS.block _ h.mt.blk.lt (fun e => h.ma.map.no_cells (by have := h.mt.blk; rw [e] at this; exact this))) (hS.block _ h.mt.map.lt (Ne.symm h.d.2.2.2.2.2))
  co := ⟨h.co.hB, h.co.blk.stp hS (fun e => h.ma.map.no_cells (by have := h.co.blk; rw [e] at this; exact this))⟩
  cg := ⟨h.cg.hB, h.cg.blk.stp hS (fun e => h.ma.map.no_cells (by have := h.cg.blk; rw [e] at this; exact this))⟩
  lv := h.lv
  lf := h.lf
  la := hl
  lt := h.lt
  ga := h.ga.keep (h.keepOfa hS)
  d := h.d
theorem Objs.keepOft (h : Objs w B a st ev ef ea et) (hS : Stp (fun b => b = a.tu) w w') : KeepB w w' := fun b cur t hb _ => hb.stp hS (fun e => h.mt.map.no_cells (e ▸ hb))
theorem Objs.keepLOft (h : Objs w B a st ev ef ea et) (hS : Stp (fun b => b = a.tu) w w') : KeepL w w' := ⟨hS.size, fun b _ _ _ hb _ => hS.block b (Array.getElem?_eq_some_iff.1 hb).1 (fun e => h.mt.map.no_cells (e ▸ hb))⟩
theorem Objs.frOft (h : Objs w B a st ev ef ea et) (hS : Stp (fun b => b = a.tu) w w') : FrT B a w w' := Fr.of_stp hS fun b _ hb => by subst hb; exact ⟨h.mt.hO, .inl (.inr (.inr (.inr rfl)))⟩
theorem Objs.sett {et' : Es ByteArray} {f' : ByteArray → Option ByteArray} (h : Objs w B a st ev ef ea et) (hS : Stp (fun b => b = a.tu) w w') (hM : MapAt 155 encW w' B a.t a.lo a.tu et') (hl : ∀ k, look et' k = f' k) : Objs w' B a { st with t := f' } ev ef ea et' where
  mv := h.mv.keep (hS.block _ h.mv.blk.lt (fun e => h.mt.map.no_cells (by have := h.mv.blk; rw [e] at this; exact this))) (hS.block _ h.mv.map.lt h.d.2.2.1)
  mf := h.mf.keep (hS.block _ h.mf.blk.lt (fun e => h.mt.map.no_cells (by have := h.mf.blk; rw [e] at this; exact this))) (hS.block _ h.mf.map.lt h.d.2.2.2.2.1)
  ma := h.ma.keep (hS.block _ h.ma.blk.lt (fun e => h.mt.map.no_cells (by have := h.ma.blk; rw [e] at this; exact this))) (hS.block _ h.ma.map.lt h.d.2.2.2.2.2)
  mt := hM
  co := ⟨h.co.hB, h.co.blk.stp hS (fun e => h.mt.map.no_cells (by have := h.co.blk; rw [e] at this; exact this))⟩
  cg := ⟨h.cg.hB, h.cg.blk.stp hS (fun e => h.mt.map.no_cells (by have := h.cg.blk; rw [e] at this; exact this))⟩
  lv := h.lv
  lf := h.lf
  la := h.la
  lt := hl
  ga := h.ga.keep (h.keepOft hS)
  d := h.d
theorem Objs.keepOfo (h : Objs w B a st ev ef ea et) (hS : Stp (fun b => b = a.o) w w') : KeepB w w' := fun b cur t hb ht => hb.stp hS (fun e => ht (by
  subst e
  have e2 := h.co.blk.symm.trans hb
  simp only [Option.some.injEq, Obj.cells.injEq] at e2
  rw [← e2.2.1]
  exact .inr (.inl rfl)))
theorem Objs.keepLOfo (h : Objs w B a st ev ef ea et) (hS : Stp (fun b => b = a.o) w w') : KeepL w w' := ⟨hS.size, fun b _ _ _ hb ht => hS.block b (Array.getElem?_eq_some_iff.1 hb).1 (fun e => by
  subst e
  have e2 := h.co.blk.symm.trans hb
  simp only [Option.some.injEq, Obj.cells.injEq] at e2
  rw [← e2.2.1] at ht
  rcases ht with ht | ht | ht | ht <;> exact absurd ht (by decide))⟩
theorem Objs.frOfo (h : Objs w B a st ev ef ea et) (hS : Stp (fun b => b = a.o) w w') : FrT B a w w' := Fr.of_stp hS fun b _ hb => by subst hb; exact ⟨h.co.hB, .inr ⟨_, _, _, h.co.blk, .inr (.inl rfl)⟩⟩
theorem Objs.seto {s' : ByteArray} (h : Objs w B a st ev ef ea et) (hS : Stp (fun b => b = a.o) w w') (hC : CellAt 157 w' B a.o a.lo [.string s']) : Objs w' B a { st with o := s' } ev ef ea et where
  mv := h.mv.keep (hS.block _ h.mv.blk.lt (fun e => (h.mv.blk.ne h.co.blk (by decide)) e)) (hS.block _ h.mv.map.lt (fun e => h.mv.map.no_cells (by have := h.co.blk; rw [← e] at this; exact this)))
  mf := h.mf.keep (hS.block _ h.mf.blk.lt (fun e => (h.mf.blk.ne h.co.blk (by decide)) e)) (hS.block _ h.mf.map.lt (fun e => h.mf.map.no_cells (by have := h.co.blk; rw [← e] at this; exact this)))
  ma := h.ma.keep (hS.block _ h.ma.blk.lt (fun e => (h.ma.blk.ne h.co.blk (by decide)) e)) (hS.block _ h.ma.map.lt (fun e => h.ma.map.no_cells (by have := h.co.blk; rw [← e] at this; exact this)))
  mt := h.mt.keep (hS.block _ h.mt.blk.lt (fun e => (h.mt.blk.ne h.co.blk (by decide)) e)) (hS.block _ h.mt.map.lt (fun e => h.mt.map.no_cells (by have := h.co.blk; rw [← e] at this; exact this)))
  co := hC
  cg := ⟨h.cg.hB, h.cg.blk.stp hS (fun e => (h.cg.blk.ne h.co.blk (by decide)) e)⟩
  lv := h.lv
  lf := h.lf
  la := h.la
  lt := h.lt
  ga := h.ga.keep (h.keepOfo hS)
  d := h.d
theorem Objs.keepOfg (h : Objs w B a st ev ef ea et) (hS : Stp (fun b => b = a.g) w w') : KeepB w w' := fun b cur t hb ht => hb.stp hS (fun e => ht (by
  subst e
  have e2 := h.cg.blk.symm.trans hb
  simp only [Option.some.injEq, Obj.cells.injEq] at e2
  rw [← e2.2.1]
  exact .inr (.inr rfl)))
theorem Objs.keepLOfg (h : Objs w B a st ev ef ea et) (hS : Stp (fun b => b = a.g) w w') : KeepL w w' := ⟨hS.size, fun b _ _ _ hb ht => hS.block b (Array.getElem?_eq_some_iff.1 hb).1 (fun e => by
  subst e
  have e2 := h.cg.blk.symm.trans hb
  simp only [Option.some.injEq, Obj.cells.injEq] at e2
  rw [← e2.2.1] at ht
  rcases ht with ht | ht | ht | ht <;> exact absurd ht (by decide))⟩
theorem Objs.frOfg (h : Objs w B a st ev ef ea et) (hS : Stp (fun b => b = a.g) w w') : FrT B a w w' := Fr.of_stp hS fun b _ hb => by subst hb; exact ⟨h.cg.hB, .inr ⟨_, _, _, h.cg.blk, .inr (.inr rfl)⟩⟩
theorem Objs.setg {s' : Gv} (h : Objs w B a st ev ef ea et) (hS : Stp (fun b => b = a.g) w w') (hC : CellAt 144 w' B a.g a.lo (gC s')) (hg : GvAt w' s') : Objs w' B a { st with g := s' } ev ef ea et where
  mv := h.mv.keep (hS.block _ h.mv.blk.lt (fun e => (h.mv.blk.ne h.cg.blk (by decide)) e)) (hS.block _ h.mv.map.lt (fun e => h.mv.map.no_cells (by have := h.cg.blk; rw [← e] at this; exact this)))
  mf := h.mf.keep (hS.block _ h.mf.blk.lt (fun e => (h.mf.blk.ne h.cg.blk (by decide)) e)) (hS.block _ h.mf.map.lt (fun e => h.mf.map.no_cells (by have := h.cg.blk; rw [← e] at this; exact this)))
  ma := h.ma.keep (hS.block _ h.ma.blk.lt (fun e => (h.ma.blk.ne h.cg.blk (by decide)) e)) (hS.block _ h.ma.map.lt (fun e => h.ma.map.no_cells (by have := h.cg.blk; rw [← e] at this; exact this)))
  mt := h.mt.keep (hS.block _ h.mt.blk.lt (fun e => (h.mt.blk.ne h.cg.blk (by decide)) e)) (hS.block _ h.mt.map.lt (fun e => h.mt.map.no_cells (by have := h.cg.blk; rw [← e] at this; exact this)))
  cg := hC
  co := ⟨h.co.hB, h.co.blk.stp hS (fun e => (h.co.blk.ne h.cg.blk (by decide)) e)⟩
  lv := h.lv
  lf := h.lf
  la := h.la
  lt := h.lt
  ga := hg
  d := h.d
end
def ThAt (w : World) (B : Nat) (a : Ad) (pot : Nat) (t : Tg) : Prop :=
  ∃ ms fs ev ef ea et, LogAt w B a.l t.most t.nest ms fs t.ns.length ∧ Objs w B a t.cur ev ef ea et ∧ fs.length = t.ns.length ∧
    (∀ (i : Nat) (n : Nt), t.ns[i]? = some n → ∃ v, fs[i]? = some v ∧ NoteAt w a v n) ∧ ms.map (fun m => (m.notes, m.count)) = t.was.map (fun p => (p.1, p.1)) ∧ t.Good ∧ ev.length + ef.length + ea.length + et.length + t.ns.length ≤ pot
section
variable {w w' w'' : World} {B : Nat} {a : Ad} {pot : Nat} {t : Tg}
theorem ThAt.mono (h : ThAt w B a pot t) {pot' : Nat} (hp : pot ≤ pot') : ThAt w B a pot' t := by
  obtain ⟨ms, fs, ev, ef, ea, et, h1, h2, h5, h6, h7, h8, h9⟩ := h
  exact ⟨ms, fs, ev, ef, ea, et, h1, h2, h5, h6, h7, h8, by omega⟩
theorem ThAt.below (h : ThAt w B a pot t) (k : Below w.heap.size w w') : ThAt w' B a pot t := by
  obtain ⟨ms, fs, ev, ef, ea, et, h1, h2, h5, h6, h7, h8, h9⟩ := h
  refine ⟨ms, fs, ev, ef, ea, et, h1.keep (KeepL.of_below k), h2.below k, h5, fun i n hi => ?_, h7, h8, h9⟩
  obtain ⟨v, hv, hn⟩ := h6 i n hi
  exact ⟨v, hv, hn.keep (KeepB.of_below k)⟩
theorem ThAt.good (h : ThAt w B a pot t) : t.Good := by obtain ⟨_, _, _, _, _, _, _, _, _, _, _, h, _⟩ := h; exact h
theorem ThAt.hB (h : ThAt w B a pot t) : B ≤ w.heap.size := by
  obtain ⟨_, _, _, _, _, _, h, _⟩ := h
  have := h.lt
  obtain ⟨_, _, h⟩ := h
  have := h.hB
  omega
theorem ThAt.keepB (h : ThAt w B a pot t) (k : FrT B a w w') : KeepB w w' := by
  obtain ⟨_, _, _, _, _, _, _, h2, _⟩ := h
  exact h2.keepB k
theorem th_len {ms : List Mk} {l : List (Nat × Sta)} (h : ms.map (fun m => (m.notes, m.count)) = l.map (fun p => (p.1, p.1))) : ms.length = l.length := by
  have := congrArg List.length h
  simpa using this
theorem drewN_below (w : World) (n : Nat) : Below w.heap.size w (w.drewN n) := ⟨rfl, rfl, rfl, Nat.le_refl _, fun _ _ => rfl⟩
end
end Go.Proofs.YtigmdfdcflkggaaGreat
/-
  A log and all that a state has of it: what Marks, Mark, Undo and the reading calls answer, and what there is behind them. Conditions: none.
-/
namespace Go.Proofs.YtigmdfdcflkggaaGreat
open Go Go.RowKit Go.ChangeMaps

section
variable {w w' : World} {B : Nat} {a : Ad} {pot : Nat} {t : Tg}
theorem th_marks (h : ThAt w B a pot t) : Calls Tryz.prog 16 #[ptrV a.l] w fun e w' => e = .returned (.int .i64 (t.was.length : Int)) ∧ w' = w := by
  obtain ⟨ms, fs, ev, ef, ea, et, h1, h2, h5, h6, h7, h8, h9⟩ := h
  rw [← th_len h7]
  exact Marks_any h1
theorem th_getv (h : ThAt w B a pot t) (k : ByteArray) : Calls Tryz.prog 88 #[ptrV a.v, .string k] w fun e w' => e = .returned (.tuple #[encV ((t.cur.v k).getD noV), .bool (t.cur.v k).isSome]) ∧ Below w.heap.size w w' := by
  obtain ⟨ms, fs, ev, ef, ea, et, h1, h2, h5, h6, h7, h8, h9⟩ := h
  rw [← h2.lv k]
  exact MV.Get_any h2.mv k
theorem th_getf (h : ThAt w B a pot t) (k : ByteArray) : Calls Tryz.prog 106 #[ptrV a.f, .string k] w fun e w' => e = .returned (.tuple #[encN ((t.cur.f k).getD noN), .bool (t.cur.f k).isSome]) ∧ Below w.heap.size w w' := by
  obtain ⟨ms, fs, ev, ef, ea, et, h1, h2, h5, h6, h7, h8, h9⟩ := h
  rw [← h2.lf k]
  exact MN.Get_any h2.mf k
theorem th_geta (h : ThAt w B a pot t) (k : ByteArray) : Calls Tryz.prog 102 #[ptrV a.a, .string k] w fun e w' => e = .returned (.tuple #[encW ((t.cur.a k).getD noW), .bool (t.cur.a k).isSome]) ∧ Below w.heap.size w w' := by
  obtain ⟨ms, fs, ev, ef, ea, et, h1, h2, h5, h6, h7, h8, h9⟩ := h
  rw [← h2.la k]
  exact MW.Get_any h2.ma k
theorem th_gett (h : ThAt w B a pot t) (k : ByteArray) : Calls Tryz.prog 102 #[ptrV a.t, .string k] w fun e w' => e = .returned (.tuple #[encW ((t.cur.t k).getD noW), .bool (t.cur.t k).isSome]) ∧ Below w.heap.size w w' := by
  obtain ⟨ms, fs, ev, ef, ea, et, h1, h2, h5, h6, h7, h8, h9⟩ := h
  rw [← h2.lt k]
  exact MW.Get_any h2.mt k
theorem th_geto (h : ThAt w B a pot t) : Calls Tryz.prog 115 #[ptrV a.o] w fun e w' => e = .returned (.string t.cur.o) ∧ Below w.heap.size w w' := by
  obtain ⟨ms, fs, ev, ef, ea, et, h1, h2, h5, h6, h7, h8, h9⟩ := h
  exact CS.Get_any _ h2.co
theorem th_getg (h : ThAt w B a pot t) : Calls Tryz.prog 79 #[ptrV a.g] w fun e w' => e = .returned (.agg #[.slice t.cur.g.A t.cur.g.n t.cur.g.c, .int .i64 t.cur.g.a, .int .i64 t.cur.g.i]) ∧ Below w.heap.size w w' := by
  obtain ⟨ms, fs, ev, ef, ea, et, h1, h2, h5, h6, h7, h8, h9⟩ := h
  exact CG.Get_any _ _ _ _ _ h2.cg
theorem th_mark (h : ThAt w B a pot t) :
    Calls Tryz.prog 19 #[ptrV a.l] w fun e w' => e = .returned (.tuple #[.int .i64 t.mark.1, .int .i64 t.mark.2.1]) ∧ ThAt w' B a pot t.mark.2.2 ∧ FrT B a w w' := by
  have hBw := h.hB
  have h0 := h
  obtain ⟨ms, fs, ev, ef, ea, et, h1, h2, h5, h6, h7, h8, h9⟩ := h
  have hl := th_len h7
  by_cases hn : t.was.length = t.nest
  · rw [show t.mark = (0, 42, t) from if_pos hn]
    refine (Mark_full h1 (hl.trans hn)).mono ?_
    rintro e w' ⟨rfl, n, rfl⟩
    exact ⟨rfl, h0.below (drewN_below w n), FrT.of_below (drewN_below w n)⟩
  · rw [show t.mark = ((t.was.length : Int) + 1, 0, t.marked) from if_neg hn]
    have hlt : t.was.length < t.nest := by have := h8.nest1; omega
    refine (Mark_add h1 (by omega) hBw).mono ?_
    rintro e w' ⟨rfl, ⟨b, hb⟩, hf⟩
    refine ⟨by rw [hl]; rfl, ?_, FrT.log hf⟩
    show ThAt w' B a pot t.marked
    refine ⟨ms ++ [(⟨b, fs.length, t.ns.length⟩ : Mk)], fs, ev, ef, ea, et, hb, h2.log hf, h5, fun i n hi => ?_, ?_, h8.marked hlt, h9⟩
    · obtain ⟨v, hv, hn⟩ := h6 i n hi
      exact ⟨v, hv, hn.keep (KeepB.of_fr hf)⟩
    · rw [List.map_append, h7, h5]
      show _ = (t.was ++ [(t.ns.length, t.cur)]).map _
      rw [List.map_append]; rfl
theorem MV.enters : Enters Tryz.prog 137 := enters_of Tryz.func137 (by kernel_rfl) rfl
theorem MN.enters : Enters Tryz.prog 143 := enters_of Tryz.func143 (by kernel_rfl) rfl
theorem MW.enters : Enters Tryz.prog 139 := enters_of Tryz.func139 (by kernel_rfl) rfl
theorem CS.enters : Enters Tryz.prog 127 := enters_of Tryz.func127 (by kernel_rfl) rfl
theorem CG.enters : Enters Tryz.prog 128 := enters_of Tryz.func128 (by kernel_rfl) rfl
theorem putK_length {α : Type} (es : Es α) (k : ByteArray) (v : α) : (putK es k v).length ≤ es.length + 1 := by
  unfold putK
  split
  · rw [List.length_map]; omega
  · rw [List.length_append]; simp
theorem dropK_length {α : Type} (es : Es α) (k : ByteArray) : (dropK es k).length ≤ es.length := List.length_filter_le _ _
/-- What there is when notes from j on are done. -/
def UnI (B : Nat) (a : Ad) (pot : Nat) (t : Tg) (fs : List Value) (w : World) (j : Nat) (W : World) : Prop :=
  ∃ ev ef ea et, Objs W B a (back (t.ns.drop j) t.cur) ev ef ea et ∧ (∀ (i : Nat) (n : Nt), t.ns[i]? = some n → ∃ v, fs[i]? = some v ∧ NoteAt W a v n) ∧ ev.length + ef.length + ea.length + et.length + j ≤ pot ∧ FrT B a w W
theorem back_step (t : Tg) {j : Nat} (h : j < t.ns.length) : back (t.ns.drop j) t.cur = apN t.ns[j] (back (t.ns.drop (j + 1)) t.cur) := by
  rw [List.drop_eq_getElem_cons h]; rfl
theorem uni_call {fs : List Value} (hfl : fs.length = t.ns.length) {j : Nat} (hj : j < fs.length) {W : World} (h : UnI B a pot t fs w (j + 1) W) :
    ∃ k cap, fs[j] = .func (.func k) #[] cap ∧ Enters Tryz.prog k ∧ Calls Tryz.prog k cap W fun e W' => e = .returned (.tuple #[]) ∧ UnI B a pot t fs w j W' ∧ KeepL W W' := by
  obtain ⟨ev, ef, ea, et, hO, hN, hp, hF⟩ := h
  have hj2 : j < t.ns.length := by omega
  obtain ⟨v, hv, hn⟩ := hN j t.ns[j] (List.getElem?_eq_getElem hj2)
  rw [List.getElem?_eq_getElem hj] at hv
  cases hv
  have hbs := back_step t hj2
  generalize hst : back (t.ns.drop (j + 1)) t.cur = st at hO hbs
  generalize hnn : t.ns[j] = n at hn hbs
  have hN2 : ∀ {W' : World}, KeepB W W' → ∀ (i : Nat) (n : Nt), t.ns[i]? = some n → ∃ v, fs[i]? = some v ∧ NoteAt W' a v n := fun kb i n hi => by
    obtain ⟨v, hv, hn⟩ := hN i n hi
    exact ⟨v, hv, hn.keep kb⟩
  cases n with
  | v key x =>
    cases x with
    | some x =>
      obtain ⟨b0, b1, b2, b3, hv, hq⟩ := hn
      refine ⟨_, _, hv, MV.enters, (MV.do_put hO.mv (x := x) ⟨b0, b1, b2, b3, rfl, hq⟩).mono ?_⟩
      rintro e W' ⟨rfl, hM', hS⟩
      refine ⟨rfl, ⟨_, ef, ea, et, by rw [hbs]; exact hO.setv (f' := updF st.v key (some x)) hS hM' (fun k => by rw [look_putK]; unfold updF; rw [hO.lv k]), hN2 (hO.keepOfv hS), ?_, hF.trans (hO.frOfv hS)⟩, hO.keepLOfv hS⟩
      have := putK_length ev key x; omega
    | none =>
      obtain ⟨b0, b1, b2, b3, hv, hq⟩ := hn
      refine ⟨_, _, hv, MV.enters, (MV.do_del hO.mv ⟨b0, b1, b2, b3, rfl, hq⟩).mono ?_⟩
      rintro e W' ⟨rfl, hM', hS⟩
      refine ⟨rfl, ⟨_, ef, ea, et, by rw [hbs]; exact hO.setv (f' := updF st.v key none) hS hM' (fun k => by rw [look_dropK]; unfold updF; rw [hO.lv k]), hN2 (hO.keepOfv hS), ?_, hF.trans (hO.frOfv hS)⟩, hO.keepLOfv hS⟩
      have := dropK_length ev key; omega
  | f key x =>
    cases x with
    | some x =>
      obtain ⟨b0, b1, b2, b3, hv, hq⟩ := hn
      refine ⟨_, _, hv, MN.enters, (MN.do_put hO.mf (x := x) ⟨b0, b1, b2, b3, rfl, hq⟩).mono ?_⟩
      rintro e W' ⟨rfl, hM', hS⟩
      refine ⟨rfl, ⟨ev, _, ea, et, by rw [hbs]; exact hO.setf (f' := updF st.f key (some x)) hS hM' (fun k => by rw [look_putK]; unfold updF; rw [hO.lf k]), hN2 (hO.keepOff hS), ?_, hF.trans (hO.frOff hS)⟩, hO.keepLOff hS⟩
      have := putK_length ef key x; omega
    | none =>
      obtain ⟨b0, b1, b2, b3, hv, hq⟩ := hn
      refine ⟨_, _, hv, MN.enters, (MN.do_del hO.mf ⟨b0, b1, b2, b3, rfl, hq⟩).mono ?_⟩
      rintro e W' ⟨rfl, hM', hS⟩
      refine ⟨rfl, ⟨ev, _, ea, et, by rw [hbs]; exact hO.setf (f' := updF st.f key none) hS hM' (fun k => by rw [look_dropK]; unfold updF; rw [hO.lf k]), hN2 (hO.keepOff hS), ?_, hF.trans (hO.frOff hS)⟩, hO.keepLOff hS⟩
      have := dropK_length ef key; omega
  | a key x =>
    cases x with
    | some x =>
      obtain ⟨b0, b1, b2, b3, hv, hq⟩ := hn
      refine ⟨_, _, hv, MW.enters, (MW.do_put hO.ma (x := x) ⟨b0, b1, b2, b3, rfl, hq⟩).mono ?_⟩
      rintro e W' ⟨rfl, hM', hS⟩
      refine ⟨rfl, ⟨ev, ef, _, et, by rw [hbs]; exact hO.seta (f' := updF st.a key (some x)) hS hM' (fun k => by rw [look_putK]; unfold updF; rw [hO.la k]), hN2 (hO.keepOfa hS), ?_, hF.trans (hO.frOfa hS)⟩, hO.keepLOfa hS⟩
      have := putK_length ea key x; omega
    | none =>
      obtain ⟨b0, b1, b2, b3, hv, hq⟩ := hn
      refine ⟨_, _, hv, MW.enters, (MW.do_del hO.ma ⟨b0, b1, b2, b3, rfl, hq⟩).mono ?_⟩
      rintro e W' ⟨rfl, hM', hS⟩
      refine ⟨rfl, ⟨ev, ef, _, et, by rw [hbs]; exact hO.seta (f' := updF st.a key none) hS hM' (fun k => by rw [look_dropK]; unfold updF; rw [hO.la k]), hN2 (hO.keepOfa hS), ?_, hF.trans (hO.frOfa hS)⟩, hO.keepLOfa hS⟩
      have := dropK_length ea key; omega
  | t key x =>
    cases x with
    | some x =>
      obtain ⟨b0, b1, b2, b3, hv, hq⟩ := hn
      refine ⟨_, _, hv, MW.enters, (MW.do_put hO.mt (x := x) ⟨b0, b1, b2, b3, rfl, hq⟩).mono ?_⟩
      rintro e W' ⟨rfl, hM', hS⟩
      refine ⟨rfl, ⟨ev, ef, ea, _, by rw [hbs]; exact hO.sett (f' := updF st.t key (some x)) hS hM' (fun k => by rw [look_putK]; unfold updF; rw [hO.lt k]), hN2 (hO.keepOft hS), ?_, hF.trans (hO.frOft hS)⟩, hO.keepLOft hS⟩
      have := putK_length et key x; omega
    | none =>
      obtain ⟨b0, b1, b2, b3, hv, hq⟩ := hn
      refine ⟨_, _, hv, MW.enters, (MW.do_del hO.mt ⟨b0, b1, b2, b3, rfl, hq⟩).mono ?_⟩
      rintro e W' ⟨rfl, hM', hS⟩
      refine ⟨rfl, ⟨ev, ef, ea, _, by rw [hbs]; exact hO.sett (f' := updF st.t key none) hS hM' (fun k => by rw [look_dropK]; unfold updF; rw [hO.lt k]), hN2 (hO.keepOft hS), ?_, hF.trans (hO.frOft hS)⟩, hO.keepLOft hS⟩
      have := dropK_length et key; omega
  | o x =>
    obtain ⟨b0, b1, hv, hq⟩ := hn
    refine ⟨_, _, hv, CS.enters, (CS.do_cell st.o x hO.co ⟨b0, b1, rfl, hq⟩).mono ?_⟩
    rintro e W' ⟨rfl, hC', hS⟩
    exact ⟨rfl, ⟨ev, ef, ea, et, by rw [hbs]; exact hO.seto hS hC', hN2 (hO.keepOfo hS), by omega, hF.trans (hO.frOfo hS)⟩, hO.keepLOfo hS⟩
  | g x =>
    obtain ⟨⟨b0, b1, hv, hq⟩, hg⟩ := hn
    refine ⟨_, _, hv, CG.enters, (CG.do_cell st.g.A st.g.n st.g.c st.g.a st.g.i x.A x.n x.c x.a x.i hO.cg ⟨b0, b1, rfl, hq⟩).mono ?_⟩
    rintro e W' ⟨rfl, hC', hS⟩
    exact ⟨rfl, ⟨ev, ef, ea, et, by rw [hbs]; exact hO.setg hS hC' (hg.keep (hO.keepOfg hS)), hN2 (hO.keepOfg hS), by omega, hF.trans (hO.frOfg hS)⟩, hO.keepLOfg hS⟩
theorem uni_keep {fs : List Value} {j : Nat} {W W' : World} (h : UnI B a pot t fs w j W) (k : Fr B LogT (fun _ => False) W W') : UnI B a pot t fs w j W' := by
  obtain ⟨ev, ef, ea, et, hO, hN, hp, hF⟩ := h
  refine ⟨ev, ef, ea, et, hO.log k, fun i n hi => ?_, hp, hF.trans (FrT.log k)⟩
  obtain ⟨v, hv, hn⟩ := hN i n hi
  exact ⟨v, hv, hn.keep (KeepB.of_fr k)⟩
theorem th_undo (h : ThAt w B a pot t) :
    Calls Tryz.prog 22 #[ptrV a.l] w fun e w' => e = .returned (.int .i64 t.undo.1) ∧ ThAt w' B a pot t.undo.2 ∧ FrT B a w w' := by
  have h0 := h
  obtain ⟨ms, fs, ev, ef, ea, et, h1, h2, h5, h6, h7, h8, h9⟩ := h
  have hl := th_len h7
  rcases List.eq_nil_or_concat t.was with hw | ⟨ws, p, hw⟩
  · obtain rfl : ms = [] := List.eq_nil_of_length_eq_zero (by rw [hl, hw]; rfl)
    rw [show t.undo = (1, t) by unfold Tg.undo; rw [hw]; rfl]
    refine (Undo_none h1).mono ?_
    rintro e w' ⟨rfl, rfl⟩
    exact ⟨rfl, h0, Fr.refl _ _ _ _⟩
  · rw [show t.undo = (0, t.undone ws p) by unfold Tg.undo; rw [hw]; simp]
    rw [List.concat_eq_append] at hw
    rw [hw, List.map_append] at h7
    obtain ⟨ms1, ms2, rfl, hm1, hm2⟩ := List.map_eq_append_iff.1 h7
    obtain ⟨m, rfl⟩ : ∃ m, ms2 = [m] := by
      have := congrArg List.length hm2
      simp only [List.length_map, List.length_singleton] at this
      exact List.length_eq_one_iff.1 this
    have hmp : m.notes = p.1 ∧ m.count = p.1 := by simpa using hm2
    have hpp : p ∈ t.was := by rw [hw]; simp
    have hpl := h8.pos p hpp
    refine (Undo_any h1 (by omega) (UnI B a pot t fs w) ⟨ev, ef, ea, et, ?_, h6, by omega, Fr.refl _ _ _ _⟩ (fun j W W' => uni_keep) (fun j W hj _ hI => uni_call h5 hj hI)).mono ?_
    · rw [h5, List.drop_length]; exact h2
    rintro e w' ⟨rfl, hL, ev', ef', ea', et', hO, hN, hp, hF⟩
    rw [hmp.1] at hL hO hp
    rw [hmp.2] at hL
    have hbk := h8.bk p hpp
    rw [hbk] at hO
    have hlen : (t.ns.take p.1).length = p.1 := by rw [List.length_take]; omega
    refine ⟨rfl, ⟨ms1, fs.take p.1, ev', ef', ea', et', ?_, hO, ?_, fun i n hi => ?_, hm1, h8.undone hw, ?_⟩, hF⟩
    · show LogAt w' B a.l t.most t.nest ms1 (fs.take p.1) (t.ns.take p.1).length
      rw [hlen]; exact hL
    · show (fs.take p.1).length = (t.ns.take p.1).length
      rw [hlen, List.length_take]; omega
    · replace hi : (t.ns.take p.1)[i]? = some n := hi
      rw [List.getElem?_take] at hi
      split at hi
      · obtain ⟨v, hv, hn⟩ := hN i n hi
        exact ⟨v, by rw [List.getElem?_take, if_pos (by assumption)]; exact hv, hn⟩
      · cases hi
    · show ev'.length + ef'.length + ea'.length + et'.length + (t.ns.take p.1).length ≤ pot
      rw [hlen]; exact hp
end
end Go.Proofs.YtigmdfdcflkggaaGreat
/-
  A log and all that a state has of it: what the calls answer that set, and what there is behind them. Conditions: keys of at most 200 bytes.
-/
namespace Go.Proofs.YtigmdfdcflkggaaGreat
open Go Go.RowKit Go.ChangeMaps

section
variable {w w' : World} {B : Nat} {a : Ad} {pot : Nat} {t : Tg}
/-- What a note of a log comes to. -/
def NoteR (B : Nat) (a : Ad) (t : Tg) (ms : List Mk) (fs : List Value) (v : Value) (w1 w2 : World) : Prop :=
  (∃ n, w2 = w1.drewN n) ∧ (t.was = [] ∨ t.full) ∨ (t.was ≠ [] ∧ LogAt w2 B a.l t.most t.nest ms (fs ++ [v]) (t.ns.length + 1) ∧ Fr B LogT (fun _ => False) w1 w2)
theorem noteR_any {ms : List Mk} {fs : List Value} (k : Nat) (cap : Array Value) (h1 : LogAt w B a.l t.most t.nest ms fs t.ns.length) (hl : ms.length = t.was.length) (hg : t.Good) :
    Calls Tryz.prog 126 #[.pointer a.lo, .func (.func k) #[] cap] w fun e w' => e = .returned (.int .i64 (if t.full then 43 else 0)) ∧ NoteR B a t ms fs (.func (.func k) #[] cap) w w' := by
  have hBw : B ≤ w.heap.size := by
    have := h1.lt
    obtain ⟨_, _, h⟩ := h1
    have := h.hB
    omega
  by_cases hw : t.was = []
  · obtain rfl : ms = [] := List.eq_nil_of_length_eq_zero (by rw [hl, hw]; rfl)
    rw [if_neg (fun h : t.full => h.1 hw)]
    refine (Note_none k cap h1).mono ?_
    rintro e w' ⟨rfl, n, rfl⟩
    exact ⟨rfl, .inl ⟨⟨n, rfl⟩, .inl hw⟩⟩
  · have hms : ms ≠ [] := fun e => hw (List.eq_nil_of_length_eq_zero (by rw [← hl, e]; rfl))
    by_cases hf : t.full
    · rw [if_pos hf]
      refine (Note_full _ h1 (by unfold refE; rw [if_pos ⟨hms, hf.2⟩])).mono ?_
      rintro e w' ⟨rfl, n, rfl⟩
      exact ⟨rfl, .inl ⟨⟨n, rfl⟩, .inr hf⟩⟩
    · rw [if_neg hf]
      have h2 := hg.most1
      have h3 : t.ns.length ≠ t.most := fun e => hf ⟨hw, e⟩
      refine (Note_add k cap h1 hms (by omega) hBw).mono ?_
      rintro e w' ⟨rfl, hL, hF⟩
      exact ⟨rfl, .inr ⟨hw, hL, hF⟩⟩
theorem noteR_keep {ms : List Mk} {fs : List Value} {v : Value} {w1 w2 : World} {st : Sta} {ev : Es Vr} {ef : Es Nd} {ea et : Es ByteArray} (h : NoteR B a t ms fs v w1 w2) (hO : Objs w1 B a st ev ef ea et) : Objs w2 B a st ev ef ea et ∧ KeepB w1 w2 ∧ FrT B a w1 w2 := by
  rcases h with ⟨⟨n, rfl⟩, _⟩ | ⟨_, _, hF⟩
  · have hb := drewN_below w1 n
    exact ⟨hO.below hb, KeepB.of_below hb, FrT.of_below hb⟩
  · exact ⟨hO.log hF, KeepB.of_fr hF, FrT.log hF⟩
/-- What there is behind a note and what was set. -/
theorem th_fin {ms : List Mk} {fs : List Value} {v : Value} {n : Nt} {w1 w2 : World} {ev ev' : Es Vr} {ef ef' : Es Nd} {ea et ea' et' : Es ByteArray} {st : Sta}
    (h6 : ∀ (i : Nat) (n : Nt), t.ns[i]? = some n → ∃ v, fs[i]? = some v ∧ NoteAt w a v n) (h5 : fs.length = t.ns.length) (h7 : ms.map (fun m => (m.notes, m.count)) = t.was.map (fun p => (p.1, p.1))) (h8 : t.Good) (h9 : ev.length + ef.length + ea.length + et.length + t.ns.length ≤ pot)
    (h1 : LogAt w B a.l t.most t.nest ms fs t.ns.length) (hf : ¬ t.full) (hap : apN n st = t.cur) (hkb : KB st) (hnb : NB n)
    (hn : NoteAt w1 a v n) (hb : Below w.heap.size w w1) (hR : NoteR B a t ms fs v w1 w2) (kn12 : KeepB w1 w2)
    (kl : KeepL w2 w') (kn : KeepB w2 w') (hO : Objs w' B a st ev' ef' ea' et') (he : ev'.length + ef'.length + ea'.length + et'.length ≤ ev.length + ef.length + ea.length + et.length + 1) :
    ThAt w' B a (pot + 2) (t.noted n st) := by
  have kn02 := (KeepB.of_below hb).trans (kn12.trans kn)
  rcases hR with ⟨⟨d, rfl⟩, hx⟩ | ⟨hw, hL, hF⟩
  · have hw : t.was = [] := hx.resolve_right hf
    have e : t.noted n st = { t with cur := st } := by unfold Tg.noted; rw [if_pos hw]
    refine ⟨ms, fs, ev', ef', ea', et', ?_, ?_, ?_, ?_, ?_, h8.noted hf hap hkb hnb, ?_⟩
    · rw [e]
      exact ((h1.keep (KeepL.of_below hb)).keep (KeepL.drewN _ d)).keep kl
    · rw [e]; exact hO
    · rw [e]; exact h5
    · rw [e]
      intro i m hi
      obtain ⟨u, hu, hm⟩ := h6 i m hi
      exact ⟨u, hu, hm.keep kn02⟩
    · rw [e]; exact h7
    · rw [e]
      show ev'.length + ef'.length + ea'.length + et'.length + t.ns.length ≤ pot + 2
      omega
  · have e : t.noted n st = { t with cur := st, ns := t.ns ++ [n] } := by unfold Tg.noted; rw [if_neg hw]
    have el : (t.ns ++ [n]).length = t.ns.length + 1 := by simp
    refine ⟨ms, fs ++ [v], ev', ef', ea', et', ?_, ?_, ?_, ?_, ?_, h8.noted hf hap hkb hnb, ?_⟩
    · rw [e]
      show LogAt w' B a.l t.most t.nest ms (fs ++ [v]) (t.ns ++ [n]).length
      rw [el]
      exact hL.keep kl
    · rw [e]; exact hO
    · rw [e]
      show (fs ++ [v]).length = (t.ns ++ [n]).length
      rw [el, List.length_append, h5]; rfl
    · rw [e]
      intro i m hi
      replace hi : (t.ns ++ [n])[i]? = some m := hi
      rcases Nat.lt_or_ge i t.ns.length with hlt | hge
      · rw [List.getElem?_append_left hlt] at hi
        obtain ⟨u, hu, hm⟩ := h6 i m hi
        exact ⟨u, by rw [List.getElem?_append_left (by omega)]; exact hu, hm.keep kn02⟩
      · have hi2 : i = t.ns.length := by
          have := (List.getElem?_eq_some_iff.1 hi).1
          rw [el] at this
          omega
        subst hi2
        rw [List.getElem?_append_right (Nat.le_refl _), Nat.sub_self] at hi
        cases hi
        exact ⟨v, by rw [← h5, List.getElem?_append_right (Nat.le_refl _), Nat.sub_self]; rfl, (hn.keep kn12).keep kn⟩
    · rw [e]; exact h7
    · rw [e]
      show ev'.length + ef'.length + ea'.length + et'.length + (t.ns ++ [n]).length ≤ pot + 2
      rw [el]; omega
theorem th_isNil {ms : List Mk} {fs : List Value} {c : Nat} (h : LogAt w B a.l t.most t.nest ms fs c) : Calls Tryz.prog 77 #[.pointer a.lo] w fun e w' => e = .returned (.bool false) ∧ w' = w := by
  obtain ⟨mv, nv, h⟩ := h
  exact isNil_no h
theorem th_putv (h : ThAt w B a pot t) (k : ByteArray) (v : Vr) (hk : k.size ≤ 200) (hv : v.v.size ≤ 5000) :
    Calls Tryz.prog 103 #[ptrV a.v, .string k, encV v] w fun e w' => e = .returned (.int .i64 (t.putv k v).1) ∧ ThAt w' B a (pot + 2) (t.putv k v).2 ∧ FrT B a w w' := by
  have h0 := h
  obtain ⟨ms, fs, ev, ef, ea, et, h1, h2, h5, h6, h7, h8, h9⟩ := h
  have hl := th_len h7
  have hnote := fun w1 cap (hb : Below w.heap.size w w1) => noteR_any (w := w1) 137 cap (h1.keep (KeepL.of_below hb)) hl h8
  by_cases hf : t.full
  · rw [show t.putv k v = (43, t) from if_pos hf]
    rw [if_pos hf] at hnote
    refine (MV.Set_bad k v h2.mv 43 (by decide) (fun cap w1 w2 => NoteR B a t ms fs (.func (.func 137) #[] cap) w1 w2) (fun w1 cap _ hb => hnote w1 cap hb)).mono ?_
    rintro e w' ⟨rfl, cap, w1, _, hb, hR⟩
    rcases hR with ⟨⟨d, rfl⟩, _⟩ | ⟨hw, hL, hF⟩
    · have hb2 := below_drewN hb d
      exact ⟨rfl, (h0.below hb2).mono (by omega), FrT.of_below hb2⟩
    · exfalso
      obtain ⟨_, _, hL⟩ := hL
      have := hL.cp
      have := hf.2
      omega
  · rw [show t.putv k v = (0, t.noted (.v k (t.cur.v k)) { t.cur with v := updF t.cur.v k (some v) }) from if_neg hf]
    rw [if_neg hf] at hnote
    refine (MV.Set_ok k v h2.mv (fun cap w1 w2 => NoteR B a t ms fs (.func (.func 137) #[] cap) w1 w2) (fun w1 cap _ hb => hnote w1 cap hb) (fun cap w1 w2 hb hR => ⟨(noteR_keep hR (h2.below hb)).1.mv, fun b cur t hbk ht => (noteR_keep hR (h2.below hb)).2.1 b cur t hbk (MV.nt ht)⟩)).mono ?_
    rintro e w' ⟨rfl, hM, cap, w1, w2, hn, hb, hR, hS⟩
    obtain ⟨hO2, kn, hF2⟩ := noteR_keep hR (h2.below hb)
    rw [h2.lv] at hn
    refine ⟨rfl, th_fin h6 h5 h7 h8 h9 h1 hf (ap_v _ _ _) ⟨h8.kb.v.upd (fun y hy => by cases hy; exact ⟨hk, hv⟩), h8.kb.f, h8.kb.a, h8.kb.t⟩ (show NB (.v k (t.cur.v k)) from fun y hy => h8.kb.v k y hy) hn hb hR kn (hO2.keepLOfv hS) (hO2.keepOfv hS) (hO2.setv hS hM (fun j => ?_)) ?_, (FrT.of_below hb).trans (hF2.trans (hO2.frOfv hS))⟩
    · rw [look_putK, hO2.lv j]; rfl
    · have := putK_length ev k v; omega
theorem th_delv (h : ThAt w B a pot t) (k : ByteArray) :
    Calls Tryz.prog 87 #[ptrV a.v, .string k] w fun e w' => e = .returned (.int .i64 (t.delv k).1) ∧ ThAt w' B a (pot + 2) (t.delv k).2 ∧ FrT B a w w' := by
  have h0 := h
  obtain ⟨ms, fs, ev, ef, ea, et, h1, h2, h5, h6, h7, h8, h9⟩ := h
  have hl := th_len h7
  have hnote := fun w1 cap (hb : Below w.heap.size w w1) => noteR_any (w := w1) 137 cap (h1.keep (KeepL.of_below hb)) hl h8
  have hi := th_isNil h1
  cases hx : t.cur.v k with
  | none =>
    rw [show t.delv k = (0, t) by unfold Tg.delv; rw [hx]]
    refine (MV.Delete_none k h2.mv ((h2.lv k).trans hx) hi).mono ?_
    rintro e w' ⟨rfl, hb⟩
    exact ⟨rfl, (h0.below hb).mono (by omega), FrT.of_below hb⟩
  | some x =>
    by_cases hf : t.full
    · rw [show t.delv k = (43, t) by unfold Tg.delv; rw [hx]; exact if_pos hf]
      rw [if_pos hf] at hnote
      refine (MV.Delete_bad k h2.mv x ((h2.lv k).trans hx) hi 43 (by decide) (fun cap w1 w2 => NoteR B a t ms fs (.func (.func 137) #[] cap) w1 w2) (fun w1 cap _ hb => hnote w1 cap hb)).mono ?_
      rintro e w' ⟨rfl, cap, w1, _, hb, hR⟩
      rcases hR with ⟨⟨d, rfl⟩, _⟩ | ⟨hw, hL, hF⟩
      · have hb2 := below_drewN hb d
        exact ⟨rfl, (h0.below hb2).mono (by omega), FrT.of_below hb2⟩
      · exfalso
        obtain ⟨_, _, hL⟩ := hL
        have := hL.cp
        have := hf.2
        omega
    · rw [show t.delv k = (0, t.noted (.v k (t.cur.v k)) { t.cur with v := updF t.cur.v k none }) by unfold Tg.delv; rw [hx]; exact if_neg hf]
      rw [if_neg hf] at hnote
      refine (MV.Delete_ok k h2.mv x ((h2.lv k).trans hx) hi (fun cap w1 w2 => NoteR B a t ms fs (.func (.func 137) #[] cap) w1 w2) (fun w1 cap _ hb => hnote w1 cap hb) (fun cap w1 w2 hb hR => (noteR_keep hR (h2.below hb)).1.mv)).mono ?_
      rintro e w' ⟨rfl, hM, cap, w1, w2, hn, hb, hR, hS⟩
      obtain ⟨hO2, kn, hF2⟩ := noteR_keep hR (h2.below hb)
      rw [h2.lv] at hn
      refine ⟨rfl, th_fin h6 h5 h7 h8 h9 h1 hf (ap_v _ _ _) ⟨h8.kb.v.upd (fun y hy => by cases hy), h8.kb.f, h8.kb.a, h8.kb.t⟩ (show NB (.v k (t.cur.v k)) from fun y hy => h8.kb.v k y hy) hn hb hR kn (hO2.keepLOfv hS) (hO2.keepOfv hS) (hO2.setv hS hM (fun j => ?_)) ?_, (FrT.of_below hb).trans (hF2.trans (hO2.frOfv hS))⟩
      · rw [look_dropK, hO2.lv j]; rfl
      · have := dropK_length ev k; omega
theorem th_putf (h : ThAt w B a pot t) (k : ByteArray) (v : Nd) (hk : k.size ≤ 200) :
    Calls Tryz.prog 105 #[ptrV a.f, .string k, encN v] w fun e w' => e = .returned (.int .i64 (t.putf k v).1) ∧ ThAt w' B a (pot + 2) (t.putf k v).2 ∧ FrT B a w w' := by
  have h0 := h
  obtain ⟨ms, fs, ev, ef, ea, et, h1, h2, h5, h6, h7, h8, h9⟩ := h
  have hl := th_len h7
  have hnote := fun w1 cap (hb : Below w.heap.size w w1) => noteR_any (w := w1) 143 cap (h1.keep (KeepL.of_below hb)) hl h8
  by_cases hf : t.full
  · rw [show t.putf k v = (43, t) from if_pos hf]
    rw [if_pos hf] at hnote
    refine (MN.Set_bad k v h2.mf 43 (by decide) (fun cap w1 w2 => NoteR B a t ms fs (.func (.func 143) #[] cap) w1 w2) (fun w1 cap _ hb => hnote w1 cap hb)).mono ?_
    rintro e w' ⟨rfl, cap, w1, _, hb, hR⟩
    rcases hR with ⟨⟨d, rfl⟩, _⟩ | ⟨hw, hL, hF⟩
    · have hb2 := below_drewN hb d
      exact ⟨rfl, (h0.below hb2).mono (by omega), FrT.of_below hb2⟩
    · exfalso
      obtain ⟨_, _, hL⟩ := hL
      have := hL.cp
      have := hf.2
      omega
  · rw [show t.putf k v = (0, t.noted (.f k (t.cur.f k)) { t.cur with f := updF t.cur.f k (some v) }) from if_neg hf]
    rw [if_neg hf] at hnote
    refine (MN.Set_ok k v h2.mf (fun cap w1 w2 => NoteR B a t ms fs (.func (.func 143) #[] cap) w1 w2) (fun w1 cap _ hb => hnote w1 cap hb) (fun cap w1 w2 hb hR => ⟨(noteR_keep hR (h2.below hb)).1.mf, fun b cur t hbk ht => (noteR_keep hR (h2.below hb)).2.1 b cur t hbk (MN.nt ht)⟩)).mono ?_
    rintro e w' ⟨rfl, hM, cap, w1, w2, hn, hb, hR, hS⟩
    obtain ⟨hO2, kn, hF2⟩ := noteR_keep hR (h2.below hb)
    rw [h2.lf] at hn
    refine ⟨rfl, th_fin h6 h5 h7 h8 h9 h1 hf (ap_f _ _ _) ⟨h8.kb.v, h8.kb.f.upd (fun y hy => by cases hy; exact ⟨hk, trivial⟩), h8.kb.a, h8.kb.t⟩ (show NB (.f k (t.cur.f k)) from fun y hy => h8.kb.f k y hy) hn hb hR kn (hO2.keepLOff hS) (hO2.keepOff hS) (hO2.setf hS hM (fun j => ?_)) ?_, (FrT.of_below hb).trans (hF2.trans (hO2.frOff hS))⟩
    · rw [look_putK, hO2.lf j]; rfl
    · have := putK_length ef k v; omega
theorem th_delf (h : ThAt w B a pot t) (k : ByteArray) :
    Calls Tryz.prog 107 #[ptrV a.f, .string k] w fun e w' => e = .returned (.int .i64 (t.delf k).1) ∧ ThAt w' B a (pot + 2) (t.delf k).2 ∧ FrT B a w w' := by
  have h0 := h
  obtain ⟨ms, fs, ev, ef, ea, et, h1, h2, h5, h6, h7, h8, h9⟩ := h
  have hl := th_len h7
  have hnote := fun w1 cap (hb : Below w.heap.size w w1) => noteR_any (w := w1) 143 cap (h1.keep (KeepL.of_below hb)) hl h8
  have hi := th_isNil h1
  cases hx : t.cur.f k with
  | none =>
    rw [show t.delf k = (0, t) by unfold Tg.delf; rw [hx]]
    refine (MN.Delete_none k h2.mf ((h2.lf k).trans hx) hi).mono ?_
    rintro e w' ⟨rfl, hb⟩
    exact ⟨rfl, (h0.below hb).mono (by omega), FrT.of_below hb⟩
  | some x =>
    by_cases hf : t.full
    · rw [show t.delf k = (43, t) by unfold Tg.delf; rw [hx]; exact if_pos hf]
      rw [if_pos hf] at hnote
      refine (MN.Delete_bad k h2.mf x ((h2.lf k).trans hx) hi 43 (by decide) (fun cap w1 w2 => NoteR B a t ms fs (.func (.func 143) #[] cap) w1 w2) (fun w1 cap _ hb => hnote w1 cap hb)).mono ?_
      rintro e w' ⟨rfl, cap, w1, _, hb, hR⟩
      rcases hR with ⟨⟨d, rfl⟩, _⟩ | ⟨hw, hL, hF⟩
      · have hb2 := below_drewN hb d
        exact ⟨rfl, (h0.below hb2).mono (by omega), FrT.of_below hb2⟩
      · exfalso
        obtain ⟨_, _, hL⟩ := hL
        have := hL.cp
        have := hf.2
        omega
    · rw [show t.delf k = (0, t.noted (.f k (t.cur.f k)) { t.cur with f := updF t.cur.f k none }) by unfold Tg.delf; rw [hx]; exact if_neg hf]
      rw [if_neg hf] at hnote
      refine (MN.Delete_ok k h2.mf x ((h2.lf k).trans hx) hi (fun cap w1 w2 => NoteR B a t ms fs (.func (.func 143) #[] cap) w1 w2) (fun w1 cap _ hb => hnote w1 cap hb) (fun cap w1 w2 hb hR => (noteR_keep hR (h2.below hb)).1.mf)).mono ?_
      rintro e w' ⟨rfl, hM, cap, w1, w2, hn, hb, hR, hS⟩
      obtain ⟨hO2, kn, hF2⟩ := noteR_keep hR (h2.below hb)
      rw [h2.lf] at hn
      refine ⟨rfl, th_fin h6 h5 h7 h8 h9 h1 hf (ap_f _ _ _) ⟨h8.kb.v, h8.kb.f.upd (fun y hy => by cases hy), h8.kb.a, h8.kb.t⟩ (show NB (.f k (t.cur.f k)) from fun y hy => h8.kb.f k y hy) hn hb hR kn (hO2.keepLOff hS) (hO2.keepOff hS) (hO2.setf hS hM (fun j => ?_)) ?_, (FrT.of_below hb).trans (hF2.trans (hO2.frOff hS))⟩
      · rw [look_dropK, hO2.lf j]; rfl
      · have := dropK_length ef k; omega
theorem th_puta (h : ThAt w B a pot t) (k : ByteArray) (v : ByteArray) (hk : k.size ≤ 200) :
    Calls Tryz.prog 99 #[ptrV a.a, .string k, encW v] w fun e w' => e = .returned (.int .i64 (t.puta k v).1) ∧ ThAt w' B a (pot + 2) (t.puta k v).2 ∧ FrT B a w w' := by
  have h0 := h
  obtain ⟨ms, fs, ev, ef, ea, et, h1, h2, h5, h6, h7, h8, h9⟩ := h
  have hl := th_len h7
  have hnote := fun w1 cap (hb : Below w.heap.size w w1) => noteR_any (w := w1) 139 cap (h1.keep (KeepL.of_below hb)) hl h8
  by_cases hf : t.full
  · rw [show t.puta k v = (43, t) from if_pos hf]
    rw [if_pos hf] at hnote
    refine (MW.Set_bad k v h2.ma 43 (by decide) (fun cap w1 w2 => NoteR B a t ms fs (.func (.func 139) #[] cap) w1 w2) (fun w1 cap _ hb => hnote w1 cap hb)).mono ?_
    rintro e w' ⟨rfl, cap, w1, _, hb, hR⟩
    rcases hR with ⟨⟨d, rfl⟩, _⟩ | ⟨hw, hL, hF⟩
    · have hb2 := below_drewN hb d
      exact ⟨rfl, (h0.below hb2).mono (by omega), FrT.of_below hb2⟩
    · exfalso
      obtain ⟨_, _, hL⟩ := hL
      have := hL.cp
      have := hf.2
      omega
  · rw [show t.puta k v = (0, t.noted (.a k (t.cur.a k)) { t.cur with a := updF t.cur.a k (some v) }) from if_neg hf]
    rw [if_neg hf] at hnote
    refine (MW.Set_ok k v h2.ma (fun cap w1 w2 => NoteR B a t ms fs (.func (.func 139) #[] cap) w1 w2) (fun w1 cap _ hb => hnote w1 cap hb) (fun cap w1 w2 hb hR => ⟨(noteR_keep hR (h2.below hb)).1.ma, fun b cur t hbk ht => (noteR_keep hR (h2.below hb)).2.1 b cur t hbk (MW.nt ht)⟩)).mono ?_
    rintro e w' ⟨rfl, hM, cap, w1, w2, hn, hb, hR, hS⟩
    obtain ⟨hO2, kn, hF2⟩ := noteR_keep hR (h2.below hb)
    rw [h2.la] at hn
    refine ⟨rfl, th_fin h6 h5 h7 h8 h9 h1 hf (ap_a _ _ _) ⟨h8.kb.v, h8.kb.f, h8.kb.a.upd (fun y hy => by cases hy; exact ⟨hk, trivial⟩), h8.kb.t⟩ (show NB (.a k (t.cur.a k)) from fun y hy => h8.kb.a k y hy) hn hb hR kn (hO2.keepLOfa hS) (hO2.keepOfa hS) (hO2.seta hS hM (fun j => ?_)) ?_, (FrT.of_below hb).trans (hF2.trans (hO2.frOfa hS))⟩
    · rw [look_putK, hO2.la j]; rfl
    · have := putK_length ea k v; omega
theorem th_dela (h : ThAt w B a pot t) (k : ByteArray) :
    Calls Tryz.prog 101 #[ptrV a.a, .string k] w fun e w' => e = .returned (.int .i64 (t.dela k).1) ∧ ThAt w' B a (pot + 2) (t.dela k).2 ∧ FrT B a w w' := by
  have h0 := h
  obtain ⟨ms, fs, ev, ef, ea, et, h1, h2, h5, h6, h7, h8, h9⟩ := h
  have hl := th_len h7
  have hnote := fun w1 cap (hb : Below w.heap.size w w1) => noteR_any (w := w1) 139 cap (h1.keep (KeepL.of_below hb)) hl h8
  have hi := th_isNil h1
  cases hx : t.cur.a k with
  | none =>
    rw [show t.dela k = (0, t) by unfold Tg.dela; rw [hx]]
    refine (MW.Delete_none k h2.ma ((h2.la k).trans hx) hi).mono ?_
    rintro e w' ⟨rfl, hb⟩
    exact ⟨rfl, (h0.below hb).mono (by omega), FrT.of_below hb⟩
  | some x =>
    by_cases hf : t.full
    · rw [show t.dela k = (43, t) by unfold Tg.dela; rw [hx]; exact if_pos hf]
      rw [if_pos hf] at hnote
      refine (MW.Delete_bad k h2.ma x ((h2.la k).trans hx) hi 43 (by decide) (fun cap w1 w2 => NoteR B a t ms fs (.func (.func 139) #[] cap) w1 w2) (fun w1 cap _ hb => hnote w1 cap hb)).mono ?_
      rintro e w' ⟨rfl, cap, w1, _, hb, hR⟩
      rcases hR with ⟨⟨d, rfl⟩, _⟩ | ⟨hw, hL, hF⟩
      · have hb2 := below_drewN hb d
        exact ⟨rfl, (h0.below hb2).mono (by omega), FrT.of_below hb2⟩
      · exfalso
        obtain ⟨_, _, hL⟩ := hL
        have := hL.cp
        have := hf.2
        omega
    · rw [show t.dela k = (0, t.noted (.a k (t.cur.a k)) { t.cur with a := updF t.cur.a k none }) by unfold Tg.dela; rw [hx]; exact if_neg hf]
      rw [if_neg hf] at hnote
      refine (MW.Delete_ok k h2.ma x ((h2.la k).trans hx) hi (fun cap w1 w2 => NoteR B a t ms fs (.func (.func 139) #[] cap) w1 w2) (fun w1 cap _ hb => hnote w1 cap hb) (fun cap w1 w2 hb hR => (noteR_keep hR (h2.below hb)).1.ma)).mono ?_
      rintro e w' ⟨rfl, hM, cap, w1, w2, hn, hb, hR, hS⟩
      obtain ⟨hO2, kn, hF2⟩ := noteR_keep hR (h2.below hb)
      rw [h2.la] at hn
      refine ⟨rfl, th_fin h6 h5 h7 h8 h9 h1 hf (ap_a _ _ _) ⟨h8.kb.v, h8.kb.f, h8.kb.a.upd (fun y hy => by cases hy), h8.kb.t⟩ (show NB (.a k (t.cur.a k)) from fun y hy => h8.kb.a k y hy) hn hb hR kn (hO2.keepLOfa hS) (hO2.keepOfa hS) (hO2.seta hS hM (fun j => ?_)) ?_, (FrT.of_below hb).trans (hF2.trans (hO2.frOfa hS))⟩
      · rw [look_dropK, hO2.la j]; rfl
      · have := dropK_length ea k; omega
theorem th_putt (h : ThAt w B a pot t) (k : ByteArray) (v : ByteArray) (hk : k.size ≤ 200) :
    Calls Tryz.prog 99 #[ptrV a.t, .string k, encW v] w fun e w' => e = .returned (.int .i64 (t.putt k v).1) ∧ ThAt w' B a (pot + 2) (t.putt k v).2 ∧ FrT B a w w' := by
  have h0 := h
  obtain ⟨ms, fs, ev, ef, ea, et, h1, h2, h5, h6, h7, h8, h9⟩ := h
  have hl := th_len h7
  have hnote := fun w1 cap (hb : Below w.heap.size w w1) => noteR_any (w := w1) 139 cap (h1.keep (KeepL.of_below hb)) hl h8
  by_cases hf : t.full
  · rw [show t.putt k v = (43, t) from if_pos hf]
    rw [if_pos hf] at hnote
    refine (MW.Set_bad k v h2.mt 43 (by decide) (fun cap w1 w2 => NoteR B a t ms fs (.func (.func 139) #[] cap) w1 w2) (fun w1 cap _ hb => hnote w1 cap hb)).mono ?_
    rintro e w' ⟨rfl, cap, w1, _, hb, hR⟩
    rcases hR with ⟨⟨d, rfl⟩, _⟩ | ⟨hw, hL, hF⟩
    · have hb2 := below_drewN hb d
      exact ⟨rfl, (h0.below hb2).mono (by omega), FrT.of_below hb2⟩
    · exfalso
      obtain ⟨_, _, hL⟩ := hL
      have := hL.cp
      have := hf.2
      omega
  · rw [show t.putt k v = (0, t.noted (.t k (t.cur.t k)) { t.cur with t := updF t.cur.t k (some v) }) from if_neg hf]
    rw [if_neg hf] at hnote
    refine (MW.Set_ok k v h2.mt (fun cap w1 w2 => NoteR B a t ms fs (.func (.func 139) #[] cap) w1 w2) (fun w1 cap _ hb => hnote w1 cap hb) (fun cap w1 w2 hb hR => ⟨(noteR_keep hR (h2.below hb)).1.mt, fun b cur t hbk ht => (noteR_keep hR (h2.below hb)).2.1 b cur t hbk (MW.nt ht)⟩)).mono ?_
    rintro e w' ⟨rfl, hM, cap, w1, w2, hn, hb, hR, hS⟩
    obtain ⟨hO2, kn, hF2⟩ := noteR_keep hR (h2.below hb)
    rw [h2.lt] at hn
    refine ⟨rfl, th_fin h6 h5 h7 h8 h9 h1 hf (ap_t _ _ _) ⟨h8.kb.v, h8.kb.f, h8.kb.a, h8.kb.t.upd (fun y hy => by cases hy; exact ⟨hk, trivial⟩)⟩ (show NB (.t k (t.cur.t k)) from fun y hy => h8.kb.t k y hy) hn hb hR kn (hO2.keepLOft hS) (hO2.keepOft hS) (hO2.sett hS hM (fun j => ?_)) ?_, (FrT.of_below hb).trans (hF2.trans (hO2.frOft hS))⟩
    · rw [look_putK, hO2.lt j]; rfl
    · have := putK_length et k v; omega
theorem th_delt (h : ThAt w B a pot t) (k : ByteArray) :
    Calls Tryz.prog 101 #[ptrV a.t, .string k] w fun e w' => e = .returned (.int .i64 (t.delt k).1) ∧ ThAt w' B a (pot + 2) (t.delt k).2 ∧ FrT B a w w' := by
  have h0 := h
  obtain ⟨ms, fs, ev, ef, ea, et, h1, h2, h5, h6, h7, h8, h9⟩ := h
  have hl := th_len h7
  have hnote := fun w1 cap (hb : Below w.heap.size w w1) => noteR_any (w := w1) 139 cap (h1.keep (KeepL.of_below hb)) hl h8
  have hi := th_isNil h1
  cases hx : t.cur.t k with
  | none =>
    rw [show t.delt k = (0, t) by unfold Tg.delt; rw [hx]]
    refine (MW.Delete_none k h2.mt ((h2.lt k).trans hx) hi).mono ?_
    rintro e w' ⟨rfl, hb⟩
    exact ⟨rfl, (h0.below hb).mono (by omega), FrT.of_below hb⟩
  | some x =>
    by_cases hf : t.full
    · rw [show t.delt k = (43, t) by unfold Tg.delt; rw [hx]; exact if_pos hf]
      rw [if_pos hf] at hnote
      refine (MW.Delete_bad k h2.mt x ((h2.lt k).trans hx) hi 43 (by decide) (fun cap w1 w2 => NoteR B a t ms fs (.func (.func 139) #[] cap) w1 w2) (fun w1 cap _ hb => hnote w1 cap hb)).mono ?_
      rintro e w' ⟨rfl, cap, w1, _, hb, hR⟩
      rcases hR with ⟨⟨d, rfl⟩, _⟩ | ⟨hw, hL, hF⟩
      · have hb2 := below_drewN hb d
        exact ⟨rfl, (h0.below hb2).mono (by omega), FrT.of_below hb2⟩
      · exfalso
        obtain ⟨_, _, hL⟩ := hL
        have := hL.cp
        have := hf.2
        omega
    · rw [show t.delt k = (0, t.noted (.t k (t.cur.t k)) { t.cur with t := updF t.cur.t k none }) by unfold Tg.delt; rw [hx]; exact if_neg hf]
      rw [if_neg hf] at hnote
      refine (MW.Delete_ok k h2.mt x ((h2.lt k).trans hx) hi (fun cap w1 w2 => NoteR B a t ms fs (.func (.func 139) #[] cap) w1 w2) (fun w1 cap _ hb => hnote w1 cap hb) (fun cap w1 w2 hb hR => (noteR_keep hR (h2.below hb)).1.mt)).mono ?_
      rintro e w' ⟨rfl, hM, cap, w1, w2, hn, hb, hR, hS⟩
      obtain ⟨hO2, kn, hF2⟩ := noteR_keep hR (h2.below hb)
      rw [h2.lt] at hn
      refine ⟨rfl, th_fin h6 h5 h7 h8 h9 h1 hf (ap_t _ _ _) ⟨h8.kb.v, h8.kb.f, h8.kb.a, h8.kb.t.upd (fun y hy => by cases hy)⟩ (show NB (.t k (t.cur.t k)) from fun y hy => h8.kb.t k y hy) hn hb hR kn (hO2.keepLOft hS) (hO2.keepOft hS) (hO2.sett hS hM (fun j => ?_)) ?_, (FrT.of_below hb).trans (hF2.trans (hO2.frOft hS))⟩
      · rw [look_dropK, hO2.lt j]; rfl
      · have := dropK_length et k; omega
theorem th_seto (h : ThAt w B a pot t) (x : ByteArray) :
    Calls Tryz.prog 95 #[ptrV a.o, .string x] w fun e w' => e = .returned (.int .i64 (t.seto x).1) ∧ ThAt w' B a (pot + 2) (t.seto x).2 ∧ FrT B a w w' := by
  have h0 := h
  obtain ⟨ms, fs, ev, ef, ea, et, h1, h2, h5, h6, h7, h8, h9⟩ := h
  have hl := th_len h7
  have hnote := fun w1 cap (hb : Below w.heap.size w w1) => noteR_any (w := w1) 127 cap (h1.keep (KeepL.of_below hb)) hl h8
  by_cases hf : t.full
  · rw [show t.seto x = (43, t) from if_pos hf]
    rw [if_pos hf] at hnote
    refine (CS.Set_bad t.cur.o x h2.co 43 (by decide) (fun cap w1 w2 => NoteR B a t ms fs (.func (.func 127) #[] cap) w1 w2) (fun w1 cap _ hb => hnote w1 cap hb)).mono ?_
    rintro e w' ⟨rfl, cap, w1, _, hb, hR⟩
    rcases hR with ⟨⟨d, rfl⟩, _⟩ | ⟨hw, hL, hF⟩
    · have hb2 := below_drewN hb d
      exact ⟨rfl, (h0.below hb2).mono (by omega), FrT.of_below hb2⟩
    · exfalso
      obtain ⟨_, _, hL⟩ := hL
      have := hL.cp
      have := hf.2
      omega
  · rw [show t.seto x = (0, t.noted (.o t.cur.o) { t.cur with o := x }) from if_neg hf]
    rw [if_neg hf] at hnote
    refine (CS.Set_ok t.cur.o x h2.co (fun cap w1 w2 => NoteR B a t ms fs (.func (.func 127) #[] cap) w1 w2) (fun w1 cap _ hb => hnote w1 cap hb) (fun cap w1 w2 hb hR => ⟨(noteR_keep hR (h2.below hb)).1.co, fun b cur t hbk ht => (noteR_keep hR (h2.below hb)).2.1 b cur t hbk (CS.nt ht)⟩)).mono ?_
    rintro e w' ⟨rfl, hC, cap, w1, w2, hn, hb, hR, hS⟩
    obtain ⟨hO2, kn, hF2⟩ := noteR_keep hR (h2.below hb)
    exact ⟨rfl, th_fin (n := .o t.cur.o) h6 h5 h7 h8 h9 h1 hf (ap_o _ _) ⟨h8.kb.v, h8.kb.f, h8.kb.a, h8.kb.t⟩ trivial hn hb hR kn (hO2.keepLOfo hS) (hO2.keepOfo hS) (hO2.seto hS hC) (Nat.le_succ _), (FrT.of_below hb).trans (hF2.trans (hO2.frOfo hS))⟩
theorem th_setg (h : ThAt w B a pot t) (x : Gv) (hg : GvAt w x) :
    Calls Tryz.prog 96 #[ptrV a.g, .agg #[.slice x.A x.n x.c, .int .i64 x.a, .int .i64 x.i]] w fun e w' => e = .returned (.int .i64 (t.setg x).1) ∧ ThAt w' B a (pot + 2) (t.setg x).2 ∧ FrT B a w w' := by
  have h0 := h
  obtain ⟨ms, fs, ev, ef, ea, et, h1, h2, h5, h6, h7, h8, h9⟩ := h
  have hl := th_len h7
  have hnote := fun w1 cap (hb : Below w.heap.size w w1) => noteR_any (w := w1) 128 cap (h1.keep (KeepL.of_below hb)) hl h8
  by_cases hf : t.full
  · rw [show t.setg x = (43, t) from if_pos hf]
    rw [if_pos hf] at hnote
    refine (CG.Set_bad t.cur.g.A t.cur.g.n t.cur.g.c t.cur.g.a t.cur.g.i x.A x.n x.c x.a x.i h2.cg 43 (by decide) (fun cap w1 w2 => NoteR B a t ms fs (.func (.func 128) #[] cap) w1 w2) (fun w1 cap _ hb => hnote w1 cap hb)).mono ?_
    rintro e w' ⟨rfl, cap, w1, _, hb, hR⟩
    rcases hR with ⟨⟨d, rfl⟩, _⟩ | ⟨hw, hL, hF⟩
    · have hb2 := below_drewN hb d
      exact ⟨rfl, (h0.below hb2).mono (by omega), FrT.of_below hb2⟩
    · exfalso
      obtain ⟨_, _, hL⟩ := hL
      have := hL.cp
      have := hf.2
      omega
  · rw [show t.setg x = (0, t.noted (.g t.cur.g) { t.cur with g := x }) from if_neg hf]
    rw [if_neg hf] at hnote
    refine (CG.Set_ok t.cur.g.A t.cur.g.n t.cur.g.c t.cur.g.a t.cur.g.i x.A x.n x.c x.a x.i h2.cg (fun cap w1 w2 => NoteR B a t ms fs (.func (.func 128) #[] cap) w1 w2) (fun w1 cap _ hb => hnote w1 cap hb) (fun cap w1 w2 hb hR => ⟨(noteR_keep hR (h2.below hb)).1.cg, fun b cur t hbk ht => (noteR_keep hR (h2.below hb)).2.1 b cur t hbk (CG.nt ht)⟩)).mono ?_
    rintro e w' ⟨rfl, hC, cap, w1, w2, hn, hb, hR, hS⟩
    obtain ⟨hO2, kn, hF2⟩ := noteR_keep hR (h2.below hb)
    exact ⟨rfl, th_fin (n := .g t.cur.g) h6 h5 h7 h8 h9 h1 hf (ap_g _ _) ⟨h8.kb.v, h8.kb.f, h8.kb.a, h8.kb.t⟩ trivial ⟨hn, h2.ga.keep (KeepB.of_below hb)⟩ hb hR kn (hO2.keepLOfg hS) (hO2.keepOfg hS) (hO2.setg hS hC (((hg.keep (KeepB.of_below hb)).keep kn).keep (hO2.keepOfg hS))) (Nat.le_succ _), (FrT.of_below hb).trans (hF2.trans (hO2.frOfg hS))⟩
end
end Go.Proofs.YtigmdfdcflkggaaGreat
