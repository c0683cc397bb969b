/-
  Calls of a state that are few steps each: Func, SetFunc, UnsetFunc, Unalias, Untrap, Cursor, SetCursor, Status. Conditions: keys of at most 200 bytes.
-/
import Derived.Test.YtigmdfdcflkggaaGreatStNamed
import Derived.BigQuiet
import Derived.Deep.RegionHeld3
namespace Go.Proofs.YtigmdfdcflkggaaGreat
open Go Go.RowKit Go.ChangeMaps

section
variable {w w' : World} {B sb : Nat} {a : Ad} {pot : Nat} {t : Tg} {n : Int}
def Tg.setF (t : Tg) (k : ByteArray) (x : Nd) : Int × Tg := if nameB k = true then t.putf k x else (16, t)
def Tg.unsetF (t : Tg) (k : ByteArray) : Int × Tg := if nameB k = true then (if (t.cur.f k).isSome = true then t.delf k else (10, t)) else (16, t)
def Tg.unalias (t : Tg) (k : ByteArray) : Int × Tg := if (t.cur.a k).isSome = true then t.dela k else (10, t)
def Tg.untrap (t : Tg) (k : ByteArray) : Int × Tg := if trapB k = true then t.delt k else (16, t)
set_option maxRecDepth 100000 in
theorem Untrap_any (h : StAt w B sb a pot t n) (k : ByteArray) :
    Calls Tryz.prog 46 #[ptrV sb, .string k] w fun e w' => e = .returned (.int .i64 (t.untrap k).1) ∧ StAt w' B sb a (pot + 2) (t.untrap k).2 n ∧ FrT B a w w' := by
  have hc := checkTrap_any h.blk k
  unfold trapE at hc
  have hS := Lib.hid h
  have hd := th_delt h.th k
  have c3 := h.blk.cell (i := 3) rfl
  have hlt := h.blk.lt
  unfold ptrV at hc hd c3 ⊢
  clear h
  by_cases hnm : trapB k = true
  · rw [if_pos hnm] at hc
    have e : t.untrap k = t.delt k := if_pos hnm
    rw [e]
    clear e hnm
    go_enter Tryz.func46, Tryz.ntmps46
    go_wp2_with fail
    refine hc.mono ?_
    rintro e w' ⟨rfl, hw⟩
    obtain rfl := hw.symm
    clear hc hw
    go_wp2_with fail
    refine hd.mono ?_
    rintro e w4 ⟨rfl, q1, q2⟩
    have hfin := Lib.hid (And.intro (hS.out.next q1 q2) q2)
    clear hd q1 q2 c3 hlt
    go_wp2
    go_ret
    exact ⟨rfl, hfin.out⟩
  · rw [if_neg hnm] at hc
    have e : t.untrap k = (16, t) := if_neg hnm
    rw [e]
    clear e hnm hd
    go_enter Tryz.func46, Tryz.ntmps46
    go_wp2_with fail
    refine hc.mono ?_
    rintro e w' ⟨rfl, hw⟩
    obtain rfl := hw.symm
    clear hc hw
    go_wp2
    go_ret
    exact ⟨rfl, hS.out.mono (by omega), FrT.of_below (Below.refl _ _)⟩
set_option maxRecDepth 100000 in
theorem Unalias_any (h : StAt w B sb a pot t n) (k : ByteArray) :
    Calls Tryz.prog 45 #[ptrV sb, .string k] w fun e w' => e = .returned (.int .i64 (t.unalias k).1) ∧ StAt w' B sb a (pot + 2) (t.unalias k).2 n ∧ FrT B a w w' := by
  have hi := sisNil_no h.blk
  have hg := th_geta h.th k
  have hst := fun (W : World) (hb : Below w.heap.size w W) => h.below hb
  have hd := fun (W : World) (hb : Below w.heap.size w W) => th_dela (h.below hb).th k
  have c2 := h.blk.cell (i := 2) rfl
  have hlt := h.blk.lt
  have hT : t.unalias k = if (t.cur.a k).isSome = true then t.dela k else (10, t) := rfl
  rw [hT]
  generalize (t.cur.a k).getD noW = V at hg
  generalize (t.cur.a k).isSome = E at hg ⊢
  unfold encW at hg
  unfold ptrV at hi hg hd c2 ⊢
  replace hst := Lib.hid hst
  replace hd := Lib.hid hd
  clear h hT
  cases E
  · rw [if_neg (by decide)]
    clear hd
    go_enter Tryz.func45, Tryz.ntmps45
    go_wp2_with fail
    refine hi.mono ?_
    rintro e w' ⟨rfl, hw⟩
    obtain rfl := hw.symm
    clear hi hw
    go_wp2_with fail
    refine hg.mono ?_
    rintro e w2 ⟨rfl, hb⟩
    have hbC := hb.alloc hb.size (.cells #[.string V] 126)
    have hfin := Lib.hid (And.intro ((hst.out _ hbC).mono (Nat.le_add_right pot 2)) (FrT.of_below (B := B) (a := a) hbC))
    clear hg hb c2 hlt hbC
    go_wp2
    go_ret
    exact ⟨rfl, hfin.out⟩
  · rw [if_pos rfl]
    go_enter Tryz.func45, Tryz.ntmps45
    go_wp2_with fail
    refine hi.mono ?_
    rintro e w' ⟨rfl, hw⟩
    obtain rfl := hw.symm
    clear hi hw
    go_wp2_with fail
    refine hg.mono ?_
    rintro e w2 ⟨rfl, hb⟩
    have hbC := Lib.hid (hb.alloc hb.size (.cells #[.string V] 126))
    have hS := hst.out _ hbC.out
    have hdd := hd.out _ hbC.out
    have k2 : (w2.alloc (.cells #[.string V] 126)).cell? ⟨sb, 2, none⟩ = some (.pointer (some ⟨a.a, 0, none⟩)) := hS.blk.cell (i := 2) rfl
    have kl := hS.blk.lt
    replace hS := Lib.hid hS
    clear hg hb c2 hlt
    unfold ptrV at hdd
    go_wp2_with fail
    refine hdd.mono ?_
    rintro e w4 ⟨rfl, q1, q2⟩
    have hfin := Lib.hid (And.intro (hS.out.next q1 q2) ((FrT.of_below hbC.out).trans q2))
    clear hdd q1 q2 k2 kl
    go_wp2
    go_ret
    exact ⟨rfl, hfin.out⟩
set_option maxRecDepth 100000 in
theorem UnsetFunc_ok (h : StAt w B sb a pot t n) (k : ByteArray) (hk : k.size ≤ 200) (hnm : nameB k = true) :
    Calls Tryz.prog 43 #[ptrV sb, .string k] w fun e w' => e = .returned (.int .i64 (t.unsetF k).1) ∧ StAt w' B sb a (pot + 2) (t.unsetF k).2 n ∧ FrT B a w w' := by
  have hi := checkName_any h.blk k (by omega)
  unfold checkE at hi
  have hg := th_getf h.th k
  have hst := fun (W : World) (hb : Below w.heap.size w W) => h.below hb
  have hd := fun (W : World) (hb : Below w.heap.size w W) => th_delf (h.below hb).th k
  have c2 := h.blk.cell (i := 1) rfl
  have hlt := h.blk.lt
  have hT : t.unsetF k = if (t.cur.f k).isSome = true then t.delf k else (10, t) := if_pos hnm
  rw [hT]
  rw [if_pos hnm] at hi
  generalize (t.cur.f k).getD noN = V at hg
  obtain ⟨v0, v1⟩ := V
  generalize (t.cur.f k).isSome = E at hg ⊢
  unfold encN at hg
  unfold ptrV at hi hg hd c2 ⊢
  replace hst := Lib.hid hst
  replace hd := Lib.hid hd
  clear h hT hnm
  cases E
  · rw [if_neg (by decide)]
    clear hd
    go_enter Tryz.func43, Tryz.ntmps43
    go_wp2_with fail
    refine hi.mono ?_
    rintro e w' ⟨rfl, hw⟩
    obtain rfl := hw.symm
    clear hi hw
    go_wp2_with fail
    refine hg.mono ?_
    rintro e w2 ⟨rfl, hb⟩
    have hbC := hb.alloc hb.size (.cells #[.int .i64 v0, .bool false, .string v1, .bool false, .slice none 0 0, .slice none 0 0, .slice none 0 0, .slice none 0 0, .slice none 0 0] 88)
    have hfin := Lib.hid (And.intro ((hst.out _ hbC).mono (Nat.le_add_right pot 2)) (FrT.of_below (B := B) (a := a) hbC))
    clear hg hb c2 hlt hbC
    go_wp2
    go_ret
    exact ⟨rfl, hfin.out⟩
  · rw [if_pos rfl]
    go_enter Tryz.func43, Tryz.ntmps43
    go_wp2_with fail
    refine hi.mono ?_
    rintro e w' ⟨rfl, hw⟩
    obtain rfl := hw.symm
    clear hi hw
    go_wp2_with fail
    refine hg.mono ?_
    rintro e w2 ⟨rfl, hb⟩
    have hbC := Lib.hid (hb.alloc hb.size (.cells #[.int .i64 v0, .bool false, .string v1, .bool false, .slice none 0 0, .slice none 0 0, .slice none 0 0, .slice none 0 0, .slice none 0 0] 88))
    have hS := hst.out _ hbC.out
    have hdd := hd.out _ hbC.out
    have k2 : (w2.alloc (.cells #[.int .i64 v0, .bool false, .string v1, .bool false, .slice none 0 0, .slice none 0 0, .slice none 0 0, .slice none 0 0, .slice none 0 0] 88)).cell? ⟨sb, 1, none⟩ = some (.pointer (some ⟨a.f, 0, none⟩)) := hS.blk.cell (i := 1) rfl
    have kl := hS.blk.lt
    replace hS := Lib.hid hS
    clear hg hb c2 hlt
    unfold ptrV at hdd
    go_wp2_with fail
    refine hdd.mono ?_
    rintro e w4 ⟨rfl, q1, q2⟩
    have hfin := Lib.hid (And.intro (hS.out.next q1 q2) ((FrT.of_below hbC.out).trans q2))
    clear hdd q1 q2 k2 kl
    go_wp2
    go_ret
    exact ⟨rfl, hfin.out⟩
set_option maxRecDepth 100000 in
theorem UnsetFunc_any (h : StAt w B sb a pot t n) (k : ByteArray) (hk : k.size ≤ 200) :
    Calls Tryz.prog 43 #[ptrV sb, .string k] w fun e w' => e = .returned (.int .i64 (t.unsetF k).1) ∧ StAt w' B sb a (pot + 2) (t.unsetF k).2 n ∧ FrT B a w w' := by
  by_cases hnm : nameB k = true
  · exact UnsetFunc_ok h k hk hnm
  · rw [show t.unsetF k = (16, t) from if_neg hnm]
    have hi := checkName_any h.blk k (by omega)
    unfold checkE at hi
    rw [if_neg hnm] at hi
    have hS := Lib.hid h
    unfold ptrV at hi ⊢
    clear h hnm
    go_enter Tryz.func43, Tryz.ntmps43
    go_wp2_with fail
    refine hi.mono ?_
    rintro e w' ⟨rfl, hw⟩
    obtain rfl := hw.symm
    clear hi hw
    go_wp2
    go_ret
    exact ⟨rfl, hS.out.mono (by omega), FrT.of_below (Below.refl _ _)⟩
set_option maxRecDepth 100000 in
set_option maxHeartbeats 4000000 in
theorem Func_any (h : StAt w B sb a pot t n) (k : ByteArray) :
    Calls Tryz.prog 72 #[ptrV sb, .string k] w fun e w' => e = .returned (.tuple #[encN ((t.cur.f k).getD noN), .bool (t.cur.f k).isSome]) ∧ Below w.heap.size w w' := by
  obtain ⟨z, hz⟩ : ∃ z, w.heap.size = z := ⟨_, rfl⟩
  have hb0 : Below z w (w.alloc (.cells #[.int .i64 0, .bool false, .string ⟨#[]⟩, .bool false, .slice none 0 0, .slice none 0 0, .slice none 0 0, .slice none 0 0, .slice none 0 0] 88)) := by rw [← hz]; exact Below.of_alloc w _
  have b0 : Blk (w.alloc (.cells #[.int .i64 0, .bool false, .string ⟨#[]⟩, .bool false, .slice none 0 0, .slice none 0 0, .slice none 0 0, .slice none 0 0, .slice none 0 0] 88)) z [.int .i64 0, .bool false, .string ⟨#[]⟩, .bool false, .slice none 0 0, .slice none 0 0, .slice none 0 0, .slice none 0 0, .slice none 0 0] 88 := by rw [← hz]; exact Blk.new w _ _
  have h1 := h.below (by rw [hz]; exact hb0)
  have hi := sisNil_no h1.blk
  have hg := th_getf h1.th k
  have c0 := h1.blk.cell (i := 1) rfl
  have hlt := h1.blk.lt
  generalize (t.cur.f k).getD noN = V at hg ⊢
  generalize (t.cur.f k).isSome = E at hg ⊢
  obtain ⟨x0, x1⟩ := V
  unfold encN at hg ⊢
  rw [hz]
  unfold ptrV at hi hg c0 ⊢
  dsimp only at hg ⊢
  clear h h1
  replace hb0 := Lib.hid hb0
  replace b0 := Lib.hid b0
  go_enter Tryz.func72, Tryz.ntmps72
  go_upto_region 1 with fail
  try rw [hz]
  generalize (w.alloc (.cells #[.int .i64 0, .bool false, .string ⟨#[]⟩, .bool false, .slice none 0 0, .slice none 0 0, .slice none 0 0, .slice none 0 0, .slice none 0 0] 88)) = w1 at hb0 b0 hi hg c0 hlt ⊢
  replace hz := Lib.hid hz
  go_wp2_with fail
  refine hi.mono ?_
  rintro e w' ⟨rfl, hw⟩
  obtain rfl := hw.symm
  clear hi hw
  go_wp2_with fail
  refine hg.mono ?_
  rintro e w2 ⟨rfl, hb2⟩
  have b2 : Blk w2 z _ _ := (hb2.block z b0.out.lt).trans b0.out
  have hbz : Below z w w2 := hb0.out.trans (hb2.mono (by have := b0.out.lt; omega))
  have e0 := b2.cell (i := 0) rfl
  have e1 := b2.cell (i := 1) rfl
  have e2 := b2.cell (i := 2) rfl
  have e3 := b2.cell (i := 3) rfl
  have e4 := b2.cell (i := 4) rfl
  have e5 := b2.cell (i := 5) rfl
  have e6 := b2.cell (i := 6) rfl
  have e7 := b2.cell (i := 7) rfl
  have e8 := b2.cell (i := 8) rfl
  have f0 := b2.frozen 0
  have f1 := b2.frozen 1
  have f2 := b2.frozen 2
  have f3 := b2.frozen 3
  have f4 := b2.frozen 4
  have f5 := b2.frozen 5
  have f6 := b2.frozen 6
  have f7 := b2.frozen 7
  have f8 := b2.frozen 8
  have l2 := b2.lt
  have bE : Blk (((((((((w2.setCell ⟨z, 0, none⟩ (.int .i64 x0)).setCell ⟨z, 1, none⟩ (.bool false)).setCell ⟨z, 2, none⟩ (.string x1)).setCell ⟨z, 3, none⟩ (.bool false)).setCell ⟨z, 4, none⟩ (.slice none 0 0)).setCell ⟨z, 5, none⟩ (.slice none 0 0)).setCell ⟨z, 6, none⟩ (.slice none 0 0)).setCell ⟨z, 7, none⟩ (.slice none 0 0)).setCell ⟨z, 8, none⟩ (.slice none 0 0)) z [.int .i64 x0, .bool false, .string x1, .bool false, .slice none 0 0, .slice none 0 0, .slice none 0 0, .slice none 0 0, .slice none 0 0] 88 := (((((((((b2.set 0 (.int .i64 x0)).set 1 (.bool false)).set 2 (.string x1)).set 3 (.bool false)).set 4 (.slice none 0 0)).set 5 (.slice none 0 0)).set 6 (.slice none 0 0)).set 7 (.slice none 0 0)).set 8 (.slice none 0 0))
  have hbE : Below z w (((((((((w2.setCell ⟨z, 0, none⟩ (.int .i64 x0)).setCell ⟨z, 1, none⟩ (.bool false)).setCell ⟨z, 2, none⟩ (.string x1)).setCell ⟨z, 3, none⟩ (.bool false)).setCell ⟨z, 4, none⟩ (.slice none 0 0)).setCell ⟨z, 5, none⟩ (.slice none 0 0)).setCell ⟨z, 6, none⟩ (.slice none 0 0)).setCell ⟨z, 7, none⟩ (.slice none 0 0)).setCell ⟨z, 8, none⟩ (.slice none 0 0)) := (((((((((hbz.setCell (Nat.le_refl z) _).setCell (Nat.le_refl z) _).setCell (Nat.le_refl z) _).setCell (Nat.le_refl z) _).setCell (Nat.le_refl z) _).setCell (Nat.le_refl z) _).setCell (Nat.le_refl z) _).setCell (Nat.le_refl z) _).setCell (Nat.le_refl z) _)
  replace bE := Lib.hid bE
  replace hbE := Lib.hid hbE
  clear hg hb2 c0 hlt b0 hb0 b2 hbz
  go_wp2
  generalize (((((((((w2.setCell ⟨z, 0, none⟩ (.int .i64 x0)).setCell ⟨z, 1, none⟩ (.bool false)).setCell ⟨z, 2, none⟩ (.string x1)).setCell ⟨z, 3, none⟩ (.bool false)).setCell ⟨z, 4, none⟩ (.slice none 0 0)).setCell ⟨z, 5, none⟩ (.slice none 0 0)).setCell ⟨z, 6, none⟩ (.slice none 0 0)).setCell ⟨z, 7, none⟩ (.slice none 0 0)).setCell ⟨z, 8, none⟩ (.slice none 0 0)) = wE at bE hbE ⊢
  have g0 := bE.out.cell (i := 0) rfl
  have g1 := bE.out.cell (i := 1) rfl
  have g2 := bE.out.cell (i := 2) rfl
  have g3 := bE.out.cell (i := 3) rfl
  have g4 := bE.out.cell (i := 4) rfl
  have g5 := bE.out.cell (i := 5) rfl
  have g6 := bE.out.cell (i := 6) rfl
  have g7 := bE.out.cell (i := 7) rfl
  have g8 := bE.out.cell (i := 8) rfl
  exact bodyPost_ret (v := .tuple #[.agg #[.int .i64 x0, .bool false, .string x1, .bool false, .slice none 0 0, .slice none 0 0, .slice none 0 0, .slice none 0 0, .slice none 0 0], .bool E]) (by simp [results, Tryz.results72, g0, g1, g2, g3, g4, g5, g6, g7, g8, go_sem]) rfl ⟨rfl, hbE.out⟩
theorem Status_any (h : StAt w B sb a pot t n) :
    Calls Tryz.prog 21 #[ptrV sb] w fun e w' => e = .returned (.int .i64 n) ∧ w' = w := by
  have hi := sisNil_no h.blk
  have c6 := h.blk.cell (i := 6) rfl
  have hlt := h.blk.lt
  unfold ptrV at hi ⊢
  clear h
  go_enter Tryz.func21, Tryz.ntmps21
  go_wp2_with fail
  refine hi.mono ?_
  rintro e w' ⟨rfl, hw⟩
  obtain rfl := hw.symm
  clear hi hw
  go_wp2
  go_ret
  exact ⟨rfl, rfl⟩
theorem fieldG (A : Option Addr) (m c : Nat) (x y : Int) (W : World) : (Instr.field 103 (.agg #[.slice A m c, .int .i64 x, .int .i64 y]) 1).run Tryz.prog W = .ok (.int .i64 x) W ∧ (Instr.field 103 (.agg #[.slice A m c, .int .i64 x, .int .i64 y]) 2).run Tryz.prog W = .ok (.int .i64 y) W := by constructor <;> kernel_rfl
set_option maxRecDepth 100000 in
theorem Cursor_any (h : StAt w B sb a pot t n) :
    Calls Tryz.prog 18 #[ptrV sb] w fun e w' => e = .returned (.tuple #[.int .i64 t.cur.g.a, .int .i64 t.cur.g.i]) ∧ Below w.heap.size w w' := by
  have hi := sisNil_no h.blk
  have hg := th_getg h.th
  have c5 := h.blk.cell (i := 5) rfl
  have hlt := h.blk.lt
  generalize t.cur.g = g at hg ⊢
  obtain ⟨A, m, c, x, y, l⟩ := g
  dsimp only at hg ⊢
  unfold ptrV at hi hg c5 ⊢
  clear h
  go_enter Tryz.func18, Tryz.ntmps18
  go_wp2_with fail
  refine hi.mono ?_
  rintro e w' ⟨rfl, hw⟩
  obtain rfl := hw.symm
  clear hi hw
  go_wp2_with fail
  refine hg.mono ?_
  rintro e w2 ⟨rfl, hb2⟩
  have hfin := Lib.hid (fun nq => drewB (hb2.alloc hb2.size (.cells #[.slice A m c, .int .i64 x, .int .i64 y] 103)) nq)
  have bC : Blk (w2.alloc (.cells #[.slice A m c, .int .i64 x, .int .i64 y] 103)) w2.heap.size [.slice A m c, .int .i64 x, .int .i64 y] 103 := Blk.new w2 _ _
  have e1 := bC.cell (i := 1) rfl
  have e2 := bC.cell (i := 2) rfl
  have lz := bC.lt
  clear hg hb2 c5 hlt
  go_wp2
  go_quiet (fail)
  go_wp2
  go_ret2
  exact ⟨rfl, hfin.out _⟩
def Tg.setC (t : Tg) (p q : Int) : Int × Tg := if p < 0 ∨ q < 0 then (1, t) else t.setg ⟨t.cur.g.A, t.cur.g.n, t.cur.g.c, p, q, t.cur.g.l⟩
theorem StAt.gv (h : StAt w B sb a pot t n) : GvAt w t.cur.g := by
  obtain ⟨ms, fs, ev, ef, ea, et, h1, h2, _⟩ := h.th
  exact h2.ga
set_option maxRecDepth 100000 in
theorem SetCursor_no (h : StAt w B sb a pot t n) (p q : Int) (hpq : p < 0 ∨ q < 0) :
    Calls Tryz.prog 48 #[ptrV sb, .int .i64 p, .int .i64 q] w fun e w' => e = .returned (.int .i64 1) ∧ w' = w := by
  have hi := sisNil_no h.blk
  unfold ptrV at hi ⊢
  clear h
  by_cases hp : p < 0
  · go_enter Tryz.func48, Tryz.ntmps48
    go_wp2_with fail
    refine hi.mono ?_
    rintro e w' ⟨rfl, hw⟩
    obtain rfl := hw.symm
    clear hi hw
    go_wp2
    go_ret
    exact ⟨rfl, rfl⟩
  · have hq := hpq.resolve_left hp
    clear hpq
    go_enter Tryz.func48, Tryz.ntmps48
    go_wp2_with fail
    refine hi.mono ?_
    rintro e w' ⟨rfl, hw⟩
    obtain rfl := hw.symm
    clear hi hw
    go_wp2
    go_ret
    exact ⟨rfl, rfl⟩
set_option maxRecDepth 100000 in
set_option maxHeartbeats 4000000 in
theorem SetCursor_ok (h : StAt w B sb a pot t n) (p q : Int) (hp : ¬ p < 0) (hq : ¬ q < 0) :
    Calls Tryz.prog 48 #[ptrV sb, .int .i64 p, .int .i64 q] w fun e w' => e = .returned (.int .i64 (t.setC p q).1) ∧ StAt w' B sb a (pot + 2) (t.setC p q).2 n ∧ FrT B a w w' := by
  have hT : t.setC p q = t.setg ⟨t.cur.g.A, t.cur.g.n, t.cur.g.c, p, q, t.cur.g.l⟩ := if_neg (by omega)
  rw [hT]
  have hi := sisNil_no h.blk
  have hg := th_getg h.th
  have hst := fun (W : World) (hb : Below w.heap.size w W) => h.below hb
  have hset := fun (W : World) (hb : Below w.heap.size w W) => th_setg (h.below hb).th ⟨t.cur.g.A, t.cur.g.n, t.cur.g.c, p, q, t.cur.g.l⟩ (show GvAt W ⟨t.cur.g.A, t.cur.g.n, t.cur.g.c, p, q, t.cur.g.l⟩ from (h.below hb).gv)
  have c5 := h.blk.cell (i := 5) rfl
  have hlt := h.blk.lt
  dsimp only at hset
  generalize hRE : t.setg ⟨t.cur.g.A, t.cur.g.n, t.cur.g.c, p, q, t.cur.g.l⟩ = RE at hset ⊢
  generalize t.cur.g = g at hg hset
  obtain ⟨A, m, c, x, y, l⟩ := g
  dsimp only at hg hset
  unfold ptrV at hi hg c5 hset ⊢
  replace hset := Lib.hid hset
  replace hst := Lib.hid hst
  clear h hT hRE
  go_enter Tryz.func48, Tryz.ntmps48
  go_wp2_with fail
  refine hi.mono ?_
  rintro e w' ⟨rfl, hw⟩
  obtain rfl := hw.symm
  clear hi hw
  go_wp2_with fail
  refine hg.mono ?_
  rintro e w2 ⟨rfl, hb2⟩
  obtain ⟨z, hz⟩ : ∃ z, w2.heap.size = z := ⟨_, rfl⟩
  have bC : Blk (w2.alloc (.cells #[.slice A m c, .int .i64 x, .int .i64 y] 103)) z [.slice A m c, .int .i64 x, .int .i64 y] 103 := by rw [← hz]; exact Blk.new w2 _ _
  have hbC := hb2.alloc hb2.size (.cells #[.slice A m c, .int .i64 x, .int .i64 y] 103)
  have hzs : w.heap.size ≤ z := by rw [← hz]; exact hb2.size
  clear hg hb2 c5 hlt
  go_upto_region 6 with fail
  try rw [hz]
  generalize (w2.alloc (.cells #[.slice A m c, .int .i64 x, .int .i64 y] 103)) = w3 at bC hbC ⊢
  have e1 := bC.cell (i := 1) rfl
  have e2 := bC.cell (i := 2) rfl
  have f1 := bC.frozen 1
  have f2 := bC.frozen 2
  have lz := bC.lt
  have bD : Blk ((w3.setCell ⟨z, 1, none⟩ (.int .i64 p)).setCell ⟨z, 2, none⟩ (.int .i64 q)) z [.slice A m c, .int .i64 p, .int .i64 q] 103 := (bC.set 1 _).set 2 _
  have hbD : Below w.heap.size w ((w3.setCell ⟨z, 1, none⟩ (.int .i64 p)).setCell ⟨z, 2, none⟩ (.int .i64 q)) := (hbC.setCell hzs _).setCell hzs _
  replace bD := Lib.hid bD
  replace hbD := Lib.hid hbD
  clear bC hbC
  go_upto_region 7 with fail
  generalize ((w3.setCell ⟨z, 1, none⟩ (.int .i64 p)).setCell ⟨z, 2, none⟩ (.int .i64 q)) = w4 at bD hbD ⊢
  clear e1 e2 f1 f2 lz
  have d0 := bD.out.cell (i := 0) rfl
  have d1 := bD.out.cell (i := 1) rfl
  have d2 := bD.out.cell (i := 2) rfl
  have lz := bD.out.lt
  have hbE := Lib.hid (drewB hbD.out 1)
  have hS4 := hst.out w4 hbD.out
  have c5 : w4.cell? ⟨sb, 5, none⟩ = some (.pointer (some ⟨a.g, 0, none⟩)) := hS4.blk.cell (i := 5) rfl
  have hlt := hS4.blk.lt
  have hk0 : w4.drew.cell? ⟨sb, 5, none⟩ = some (.pointer (some ⟨a.g, 0, none⟩)) ∧ w4.drew.cell? ⟨z, 0, none⟩ = some (.slice A m c) ∧ w4.drew.cell? ⟨z, 1, none⟩ = some (.int .i64 p) ∧ w4.drew.cell? ⟨z, 2, none⟩ = some (.int .i64 q) := ⟨c5, d0, d1, d2⟩
  have hs := Lib.hid (hset.out _ hbE.out)
  have hSE := Lib.hid (hst.out _ hbE.out)
  clear hS4
  go_region_held3 (fun w' => w'.cell? ⟨sb, 5, none⟩ = some (.pointer (some ⟨a.g, 0, none⟩)) ∧ w'.cell? ⟨z, 0, none⟩ = some (.slice A m c) ∧ w'.cell? ⟨z, 1, none⟩ = some (.int .i64 p) ∧ w'.cell? ⟨z, 2, none⟩ = some (.int .i64 q))
    (first | go_keep | exact hk0 | exact hk1)
    ((go_at_call 96; refine hs.out.mono ?_; rintro e w5 ⟨rfl, q1, q2⟩; have hS5 := hSE.out.next q1 q2; have k5 : Blk w5 z _ _ := hSE.out.th.keepB q2 _ _ _ (show Blk (w4.drewN 1) z _ _ from bD.out) (nPk (by decide)); have hk1 : w5.cell? ⟨sb, 5, none⟩ = some (.pointer (some ⟨a.g, 0, none⟩)) ∧ w5.cell? ⟨z, 0, none⟩ = some (.slice A m c) ∧ w5.cell? ⟨z, 1, none⟩ = some (.int .i64 p) ∧ w5.cell? ⟨z, 2, none⟩ = some (.int .i64 q) := ⟨hS5.blk.cell (i := 5) rfl, k5.cell (i := 0) rfl, k5.cell (i := 1) rfl, k5.cell (i := 2) rfl⟩; clear k5; replace hS5 := Lib.hid hS5; replace q2 := Lib.hid ((FrT.of_below hbE.out).trans q2); clear q1))
  clear hs hk0 hk1 hlt d0 d1 d2 lz c5
  go_wp2
  go_ret
  exact ⟨rfl, hS5.out, q2.out⟩
end
end Go.Proofs.YtigmdfdcflkggaaGreat
