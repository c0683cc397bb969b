/-
  A state where texts are written that are none of its own; two rows of the same texts. Conditions: no mark is open.
-/
import Derived.Deep.QuietTactic
import Derived.BigQuiet
import Derived.Test.YtigmdfdcflkggaaStAwake
set_option linter.unusedSimpArgs false
set_option linter.unusedVariables false
namespace Go.Proofs.Ytigmdfdcflkggaa
open Go Go.RowKit Go.ChangeMaps

section
variable {w w' : World} {B sb g : Nat} {a : Ad} {pot : Nat} {t : Tg} {n : Int}
/-- The block is none of these texts'. -/
def GvAway (g : Nat) (x : Gv) : Prop := x.n = 0 ∨ ∀ b off, x.A = some ⟨b, off, none⟩ → b ≠ g
theorem GvAt.away {x : Gv} (h : GvAt w x) (ha : GvAway g x) (hS : Stp (fun b => b = g) w w') : GvAt w' x :=
  ⟨h.1, h.2.1, h.2.2.1, fun hn => by
    obtain ⟨b, off, cur, e1, e2, e3⟩ := h.2.2.2 hn
    refine ⟨b, off, cur, e1, e2.stp hS (fun e => ?_), e3⟩
    rcases ha with h0 | h0
    · omega
    · exact h0 b off e1 e⟩
theorem ThAt.away {cur : List Value} (h : ThAt w B a pot t) (hb : Blk w g cur 9) (hS : Stp (fun b => b = g) w w') (ha : GvAway g t.cur.g) (hns : t.ns = []) : ThAt w' B a pot t := by
  obtain ⟨ms, fs, ev, ef, ea, et, h1, h2, h5, h6, h7, h8, h9⟩ := h
  refine ⟨ms, fs, ev, ef, ea, et, h1.keep ⟨hS.size, fun b _ _ _ hc ht => hS.block b (Array.getElem?_eq_some_iff.1 hc).1 (fun e => ?_)⟩, ?_, h5, fun i n hi => ?_, h7, h8, h9⟩
  · subst e
    have e2 := hb.symm.trans hc
    simp only [Option.some.injEq, Obj.cells.injEq] at e2
    rw [← e2.2.1] at ht
    rcases ht with ht | ht | ht | ht <;> exact absurd ht (by decide)
  · exact {
      mv := h2.mv.keep (hS.block _ h2.mv.blk.lt (fun e => (h2.mv.blk.ne hb (by decide)) e)) (hS.block _ h2.mv.map.lt (fun e => h2.mv.map.no_cells (by have := hb; rw [← e] at this; exact this)))
      mf := h2.mf.keep (hS.block _ h2.mf.blk.lt (fun e => (h2.mf.blk.ne hb (by decide)) e)) (hS.block _ h2.mf.map.lt (fun e => h2.mf.map.no_cells (by have := hb; rw [← e] at this; exact this)))
      ma := h2.ma.keep (hS.block _ h2.ma.blk.lt (fun e => (h2.ma.blk.ne hb (by decide)) e)) (hS.block _ h2.ma.map.lt (fun e => h2.ma.map.no_cells (by have := hb; rw [← e] at this; exact this)))
      mt := h2.mt.keep (hS.block _ h2.mt.blk.lt (fun e => (h2.mt.blk.ne hb (by decide)) e)) (hS.block _ h2.mt.map.lt (fun e => h2.mt.map.no_cells (by have := hb; rw [← e] at this; exact this)))
      co := ⟨h2.co.hB, h2.co.blk.stp hS (fun e => (h2.co.blk.ne hb (by decide)) e)⟩
      cg := ⟨h2.cg.hB, h2.cg.blk.stp hS (fun e => (h2.cg.blk.ne hb (by decide)) e)⟩
      lv := h2.lv
      lf := h2.lf
      la := h2.la
      lt := h2.lt
      ga := h2.ga.away ha hS
      d := h2.d }
  · rw [hns] at hi; cases hi
theorem StAt.away {cur : List Value} (h : StAt w B sb a pot t n) (hb : Blk w g cur 9) (hS : Stp (fun b => b = g) w w') (ha : GvAway g t.cur.g) (hns : t.ns = []) : StAt w' B sb a pot t n :=
  ⟨h.blk.stp hS (fun e => (h.blk.ne hb (by decide)) e), h.th.away hb hS ha hns, h.hB⟩
end
theorem txs_own {w : World} {base : Nat} {v : Value} {l : List ByteArray} {m : Nat} (hm : l.length = m) (h : w.ownsRow base 9 1 v m (l.map .string)) : ∃ A c, v = .slice A m c ∧ Txs w A m c l := by
  obtain ⟨A, c, rfl, h1, h2⟩ := own_form h
  refine ⟨A, c, rfl, hm, h1, h2, fun hn => ?_⟩
  rcases h.2 with ⟨_, h0⟩ | ⟨g, cap, _, e, _⟩
  · omega
  · injection e with e1 e2 e3
    subst e1 e3
    refine ⟨g, 0, rfl, (h.lt g rfl).2, fun j x hx => ?_⟩
    have := h.cells (g := g) rfl j (.string x) (by rw [List.getElem?_map, hx]; rfl)
    rwa [add_plain0] at this
/-- An own row of texts is a block of texts. -/
theorem blk_own {w : World} {base m : Nat} {v : Value} {l : List ByteArray} (h : w.ownsRow base 9 1 v m (l.map .string)) (hn : 0 < m) : ∃ (g c : Nat) (cur : List Value), v = .slice (some ⟨g, 0, none⟩) m c ∧ base ≤ g ∧ m ≤ c ∧ c ≤ maxLen ∧ Blk w g cur 9 ∧ ∀ (j : Nat) (x : ByteArray), l[j]? = some x → cur[j]? = some (Value.string x) := by
  rcases h.2 with ⟨_, h0⟩ | ⟨g, cap, cur, rfl, hb, hg, h1, h2, h3, h4⟩
  · omega
  · refine ⟨g, cap, cur.toList, rfl, hb, h1, h2, by unfold Blk; simpa using hg, fun j x hx => ?_⟩
    have e : (cur.toList.take (m * 1))[j]? = some (Value.string x) := by
      first
        | rw [h3, List.getElem?_map, hx]; rfl
        | rw [h4, List.getElem?_map, hx]; rfl
    rw [List.getElem?_take] at e
    split at e
    · exact e
    · cases e
set_option maxRecDepth 100000 in
set_option maxHeartbeats 4000000 in
theorem texts_any {A A2 : Option Addr} {m c c2 : Nat} {l : List ByteArray} (w : World) (h1 : Txs w A m c l) (h2 : Txs w A2 m c2 l) :
    Calls Try.prog 8 #[.slice A m c, .slice A2 m c2] w fun e w' => e = .returned (.bool true) ∧ Below w.heap.size w w' := by
  have hc := h1.2.1
  have hcm := h1.2.2.1
  have hc2 := h2.2.1
  have hcm2 := h2.2.2.1
  unfold maxLen at hcm hcm2
  replace h1 := Lib.hid h1
  replace h2 := Lib.hid h2
  go_enter Try.func8, Try.ntmps8
  go_wp2
  go_loopw [5] (fun iv wr => ∃ i : Nat, i ≤ m ∧ iv = .int .i64 (i : Int) ∧ Hid (Below w.heap.size w wr)) (fun iv _ => m - (intOf iv).toNat)
  case atStart => exact ⟨0, Nat.zero_le _, rfl, Lib.hid (Below.refl _ _)⟩
  case round =>
    obtain ⟨i, hi, rfl, hbr⟩ := hrel
    by_cases hlt : i < m
    · obtain ⟨b1, o1, rfl, hb1, hx1⟩ := h1.out.2.2.2 (by omega)
      obtain ⟨b2, o2, rfl, hb2, hx2⟩ := h2.out.2.2.2 (by omega)
      have hil : i < l.length := by rw [h1.out.1]; exact hlt
      have k1 := (World.cell?_of_block (a := ⟨b1, o1 + i, none⟩) (hbr.out.block b1 hb1)).trans (hx1 i l[i] (List.getElem?_eq_getElem hil))
      have k2 := (World.cell?_of_block (a := ⟨b2, o2 + i, none⟩) (hbr.out.block b2 hb2)).trans (hx2 i l[i] (List.getElem?_eq_getElem hil))
      generalize l[i] = x at k1 k2
      have hi1 : (0 : Int) ≤ (i : Int) := by omega
      have hi2 : (i : Int) < (m : Int) := by omega
      have hne : (x.toList != x.toList) = false := by simp
      clear hx1 hx2
      go_upto_region 6 with fail
      go_quiet (fail)
      have hbE : ∀ q, Hid (Below w.heap.size w (wr.drewN q)) := fun q => Lib.hid ⟨hbr.out.os, hbr.out.tape, hbr.out.output, hbr.out.size, hbr.out.block⟩
      go_wp2
      go_roundw
      case rel => exact ⟨i + 1, by omega, by go_num, hbE _⟩
      case measure => simp [intOf]; omega
    · obtain rfl : i = m := by omega
      have hi2 : ¬ (i : Int) < (i : Int) := by omega
      go_wp2
      go_ret
      exact ⟨rfl, hbr.out⟩
end Go.Proofs.Ytigmdfdcflkggaa
