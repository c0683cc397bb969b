/-
  The variables of a state: Var, Get, Put, Set, Mark, Unset; its options, read. Conditions: keys of at most 200 bytes.
-/
import Derived.Test.YtigmdfdcflkggaaGreatStFun
namespace Go.Proofs.YtigmdfdcflkggaaGreat
open Go Go.RowKit Go.ChangeMaps

structure StAt (w : World) (B sb : Nat) (a : Ad) (pot : Nat) (t : Tg) (n : Int) : Prop where
  blk : Blk w sb (stC a n) 110
  th : ThAt w B a pot t
  hB : B ≤ sb
section
variable {w w' : World} {B sb : Nat} {a : Ad} {pot : Nat} {t : Tg} {n : Int}
theorem StAt.below (h : StAt w B sb a pot t n) (k : Below w.heap.size w w') : StAt w' B sb a pot t n := ⟨(k.block _ h.blk.lt).trans h.blk, h.th.below k, h.hB⟩
theorem nPkSt : ¬ PkT 110 := nPk (by decide)
/-- Behind a call that sets. -/
theorem StAt.next (h : StAt w B sb a pot t n) {pot' : Nat} {t' : Tg} (k : ThAt w' B a pot' t') (f : FrT B a w w') : StAt w' B sb a pot' t' n := ⟨h.th.keepB f _ _ _ h.blk nPkSt, k, h.hB⟩
theorem StAt.mono (h : StAt w B sb a pot t n) {pot' : Nat} (hp : pot ≤ pot') : StAt w B sb a pot' t n := ⟨h.blk, h.th.mono hp, h.hB⟩
def valV (t : Tg) (k : ByteArray) : Vr := (t.cur.v k).getD noV
theorem StAt.vb (h : StAt w B sb a pot t n) (k : ByteArray) : (valV t k).v.size ≤ 5000 := by
  unfold valV
  cases hv : t.cur.v k with
  | none => decide
  | some x => exact (h.th.good.kb.v k x hv).2
set_option maxRecDepth 100000 in
theorem Var_any (h : StAt w B sb a pot t n) (k : ByteArray) :
    Calls Tryz.prog 28 #[ptrV sb, .string k] w fun e w' => e = .returned (encV (valV t k)) ∧ Below w.heap.size w w' := by
  obtain ⟨z, hz⟩ : ∃ z, w.heap.size = z := ⟨_, rfl⟩
  have hb0 : Below z w (w.alloc (.cells #[.string ⟨#[]⟩, .bool false, .bool false, .bool false] 59)) := by rw [← hz]; exact Below.of_alloc w _
  have b0 : Blk (w.alloc (.cells #[.string ⟨#[]⟩, .bool false, .bool false, .bool false] 59)) z [.string ⟨#[]⟩, .bool false, .bool false, .bool false] 59 := by rw [← hz]; exact Blk.new w _ _
  have h1 := h.below (by rw [hz]; exact hb0)
  have hi := sisNil_no h1.blk
  have hg := th_getv h1.th k
  have c0 := h1.blk.cell (i := 0) rfl
  have hlt := h1.blk.lt
  unfold valV
  generalize (t.cur.v k).getD noV = V at hg ⊢
  obtain ⟨x0, x1, x2, x3⟩ := V
  unfold encV at hg ⊢
  rw [hz]
  unfold ptrV at hi hg c0 ⊢
  dsimp only at hg ⊢
  clear h h1
  replace hb0 := Lib.hid hb0
  replace b0 := Lib.hid b0
  go_enter Tryz.func28, Tryz.ntmps28
  go_upto_region 1 with fail
  try rw [hz]
  generalize (w.alloc (.cells #[.string ⟨#[]⟩, .bool false, .bool false, .bool false] 59)) = w1 at hb0 b0 hi hg c0 hlt ⊢
  replace hz := Lib.hid hz
  go_wp2_with fail
  refine hi.mono ?_
  rintro e w' ⟨rfl, hw⟩
  obtain rfl := hw.symm
  clear hi hw
  go_wp2_with fail
  refine hg.mono ?_
  rintro e w2 ⟨rfl, hb2⟩
  have b2 : Blk w2 z _ _ := (hb2.block z b0.out.lt).trans b0.out
  have hbz : Below z w w2 := hb0.out.trans (hb2.mono (by have := b0.out.lt; omega))
  have e0 := b2.cell (i := 0) rfl
  have e1 := b2.cell (i := 1) rfl
  have e2 := b2.cell (i := 2) rfl
  have e3 := b2.cell (i := 3) rfl
  have f0 := b2.frozen 0
  have f1 := b2.frozen 1
  have f2 := b2.frozen 2
  have f3 := b2.frozen 3
  have l2 := b2.lt
  have hne : z ≠ w2.heap.size := by omega
  have bE : Blk (((((w2.setCell ⟨z, 0, none⟩ (.string x0)).setCell ⟨z, 1, none⟩ (.bool x1)).setCell ⟨z, 2, none⟩ (.bool x2)).setCell ⟨z, 3, none⟩ (.bool x3)).alloc (.cells #[.string x0, .bool x1, .bool x2, .bool x3] 59)) z [.string x0, .bool x1, .bool x2, .bool x3] 59 := ((((b2.set 0 (.string x0)).set 1 (.bool x1)).set 2 (.bool x2)).set 3 (.bool x3)).alloc _
  have hbE : Below z w (((((w2.setCell ⟨z, 0, none⟩ (.string x0)).setCell ⟨z, 1, none⟩ (.bool x1)).setCell ⟨z, 2, none⟩ (.bool x2)).setCell ⟨z, 3, none⟩ (.bool x3)).alloc (.cells #[.string x0, .bool x1, .bool x2, .bool x3] 59)) := ((((hbz.setCell (Nat.le_refl z) _).setCell (Nat.le_refl z) _).setCell (Nat.le_refl z) _).setCell (Nat.le_refl z) _).alloc (by simp; omega) _
  replace bE := Lib.hid bE
  replace hbE := Lib.hid hbE
  clear hg hb2 c0 hlt b0 hb0 b2 hbz
  go_wp2
  generalize (((((w2.setCell ⟨z, 0, none⟩ (.string x0)).setCell ⟨z, 1, none⟩ (.bool x1)).setCell ⟨z, 2, none⟩ (.bool x2)).setCell ⟨z, 3, none⟩ (.bool x3)).alloc (.cells #[.string x0, .bool x1, .bool x2, .bool x3] 59)) = wE at bE hbE ⊢
  have g0 := bE.out.cell (i := 0) rfl
  have g1 := bE.out.cell (i := 1) rfl
  have g2 := bE.out.cell (i := 2) rfl
  have g3 := bE.out.cell (i := 3) rfl
  exact bodyPost_ret (v := .agg #[.string x0, .bool x1, .bool x2, .bool x3]) (by simp [results, Tryz.results28, g0, g1, g2, g3, go_sem]) rfl ⟨rfl, hbE.out⟩
set_option maxRecDepth 100000 in
theorem Options_any (h : StAt w B sb a pot t n) :
    Calls Tryz.prog 67 #[ptrV sb] w fun e w' => e = .returned (.string t.cur.o) ∧ Below w.heap.size w w' := by
  have hi := sisNil_no h.blk
  have hg := th_geto h.th
  have c4 := h.blk.cell (i := 4) rfl
  have hlt := h.blk.lt
  unfold ptrV at hi hg c4 ⊢
  clear h
  go_enter Tryz.func67, Tryz.ntmps67
  go_wp2_with fail
  refine hi.mono ?_
  rintro e w' ⟨rfl, hw⟩
  obtain rfl := hw.symm
  go_wp2_with fail
  refine hg.mono ?_
  rintro e w2 ⟨rfl, hb⟩
  replace hb := Lib.hid hb
  go_wp2
  go_ret
  exact ⟨rfl, hb.out⟩
def optB (t : Tg) (c : UInt8) : Bool := decide (0 ≤ Lib.indexByte t.cur.o.data.toList c)
set_option maxRecDepth 100000 in
theorem Option_any (h : StAt w B sb a pot t n) (c : UInt8) :
    Calls Tryz.prog 85 #[ptrV sb, .int .u8 (c.toNat : Int)] w fun e w' => e = .returned (.bool (optB t c)) ∧ Below w.heap.size w w' := by
  have ho := Options_any h
  have hix := fun W => indexByte t.cur.o (c.toNat : Int) W
  have hbk : ((c.toNat : Int)).toNat.toUInt8 = c := by simp
  rw [hbk] at hix
  obtain ⟨R, hR⟩ : ∃ R, optB t c = R := ⟨_, rfl⟩
  rw [hR]
  unfold optB at hR
  generalize t.cur.o = o at ho hix hR
  generalize Lib.indexByte o.data.toList c = ix at hix hR
  unfold ptrV at ho ⊢
  replace hix := Lib.hid hix
  replace hR := Lib.hid hR
  clear h
  go_enter Tryz.func85, Tryz.ntmps85
  go_wp2_with fail
  refine ho.mono ?_
  rintro e w2 ⟨rfl, hb⟩
  replace hb := Lib.hid hb
  go_wp2_with fail
  refine (hix.out _).mono ?_
  rintro e w' ⟨rfl, hw⟩
  obtain rfl := hw.symm
  go_wp2
  go_ret
  exact ⟨by rw [← hR.out]; rfl, hb.out⟩
/-- What is put: without a value, if it is not set. -/
def bareV (x : Vr) : Vr := if x.s = true then x else { x with v := ⟨#[]⟩ }
def Tg.put (t : Tg) (k : ByteArray) (x : Vr) : Int × Tg := if nameB k = true then (if bareV x = noV then t.delv k else t.putv k (bareV x)) else (16, t)
theorem drewB {z : Nat} {w w' : World} (h : Below z w w') (n : Nat) : Below z w (w'.drewN n) := ⟨h.os, h.tape, h.output, h.size, h.block⟩
set_option maxRecDepth 100000 in
set_option maxHeartbeats 2000000 in
theorem Put_set (h : StAt w B sb a pot t n) (k : ByteArray) (hk : k.size ≤ 200) (hnm : nameB k = true) (x0 : ByteArray) (hx0 : x0.size ≤ 5000) (x2 x3 : Bool) :
    Calls Tryz.prog 39 #[ptrV sb, .string k, .agg #[.string x0, .bool true, .bool x2, .bool x3]] w fun e w' => e = .returned (.int .i64 (t.putv k ⟨x0, true, x2, x3⟩).1) ∧ StAt w' B sb a (pot + 2) (t.putv k ⟨x0, true, x2, x3⟩).2 n ∧ FrT B a w w' := by
  obtain ⟨z, hz⟩ : ∃ z, w.heap.size = z := ⟨_, rfl⟩
  have hb0 : Below z w (w.alloc (.cells #[.string x0, .bool true, .bool x2, .bool x3] 59)) := by rw [← hz]; exact Below.of_alloc w _
  have b0 : Blk (w.alloc (.cells #[.string x0, .bool true, .bool x2, .bool x3] 59)) z [.string x0, .bool true, .bool x2, .bool x3] 59 := by rw [← hz]; exact Blk.new w _ _
  have hW := h.below (by rw [hz]; exact hb0)
  have hi := checkName_any hW.blk k (by omega)
  unfold checkE at hi
  rw [if_pos hnm] at hi
  unfold ptrV at hi ⊢
  clear h hnm
  replace hb0 := Lib.hid hb0
  replace b0 := Lib.hid b0
  replace hW := Lib.hid hW
  go_enter Tryz.func39, Tryz.ntmps39
  go_upto_region 1 with fail
  try rw [hz]
  generalize (w.alloc (.cells #[.string x0, .bool true, .bool x2, .bool x3] 59)) = w1 at hb0 b0 hi hW ⊢
  replace hz := Lib.hid hz
  go_wp2_with fail
  refine hi.mono ?_
  rintro e w' ⟨rfl, hw⟩
  obtain rfl := hw.symm
  clear hi hw
  have e0 := b0.out.cell (i := 0) rfl
  have e1 := b0.out.cell (i := 1) rfl
  have f0 := b0.out.frozen 0
  have lz := b0.out.lt
  obtain ⟨wW, rfl⟩ : ∃ y, y = w1 := ⟨_, rfl⟩
  have bW := b0
  have hbW := hb0
  clear e0 e1 f0 lz b0 hb0
  have e0 := bW.out.cell (i := 0) rfl
  have e1 := bW.out.cell (i := 1) rfl
  have e2 := bW.out.cell (i := 2) rfl
  have e3 := bW.out.cell (i := 3) rfl
  have lz := bW.out.lt
  have hd := th_putv (hW.out.below (drewN_below wW 1)).th k ⟨x0, true, x2, x3⟩ hk hx0
  unfold ptrV encV at hd
  dsimp only at hd
  have c0 : wW.cell? ⟨sb, 0, none⟩ = some (.pointer (some ⟨a.v, 0, none⟩)) := hW.out.blk.cell (i := 0) rfl
  have hlt := hW.out.blk.lt
  have hk0 : wW.drew.cell? ⟨sb, 0, none⟩ = some (.pointer (some ⟨a.v, 0, none⟩)) ∧ wW.drew.cell? ⟨z, 0, none⟩ = some (.string x0) ∧ wW.drew.cell? ⟨z, 1, none⟩ = some (.bool true) ∧ wW.drew.cell? ⟨z, 2, none⟩ = some (.bool x2) ∧ wW.drew.cell? ⟨z, 3, none⟩ = some (.bool x3) := ⟨c0, e0, e1, e2, e3⟩
  replace hd := Lib.hid hd
  go_upto_region 8 with fail
  go_region_held3 (fun w' => w'.cell? ⟨sb, 0, none⟩ = some (.pointer (some ⟨a.v, 0, none⟩)) ∧ w'.cell? ⟨z, 0, none⟩ = some (.string x0) ∧ w'.cell? ⟨z, 1, none⟩ = some (.bool true) ∧ w'.cell? ⟨z, 2, none⟩ = some (.bool x2) ∧ w'.cell? ⟨z, 3, none⟩ = some (.bool x3))
    (first | go_keep | exact hk0 | exact hk1)
    ((go_at_call 103; refine hd.out.mono ?_; rintro e w5 ⟨rfl, q1, q2⟩; have hS5 := (hW.out.below (drewN_below wW 1)).next q1 q2; have k5 : Blk w5 z _ _ := (hW.out.below (drewN_below wW 1)).th.keepB q2 _ _ _ (show Blk wW.drew z _ _ from bW.out) (nPk (by decide)); have hk1 : w5.cell? ⟨sb, 0, none⟩ = some (.pointer (some ⟨a.v, 0, none⟩)) ∧ w5.cell? ⟨z, 0, none⟩ = some (.string x0) ∧ w5.cell? ⟨z, 1, none⟩ = some (.bool true) ∧ w5.cell? ⟨z, 2, none⟩ = some (.bool x2) ∧ w5.cell? ⟨z, 3, none⟩ = some (.bool x3) := ⟨hS5.blk.cell (i := 0) rfl, k5.cell (i := 0) rfl, k5.cell (i := 1) rfl, k5.cell (i := 2) rfl, k5.cell (i := 3) rfl⟩; clear k5; replace hS5 := Lib.hid hS5; replace q2 := Lib.hid q2; clear q1))
  have hfin : Hid (StAt w5 B sb a (pot + 2) (t.putv k ⟨x0, true, x2, x3⟩).2 n ∧ FrT B a w w5) := Lib.hid ⟨hS5.out, (FrT.of_below (by rw [hz.out]; exact drewB hbW.out 1)).trans q2.out⟩
  clear hd q2 c0 hk0 hk1 hlt e0 e1 e2 e3 lz hS5
  go_wp2
  go_ret
  exact ⟨rfl, hfin.out⟩
set_option maxRecDepth 100000 in
set_option maxHeartbeats 2000000 in
theorem Put_exp (h : StAt w B sb a pot t n) (k : ByteArray) (hk : k.size ≤ 200) (hnm : nameB k = true) (x0 : ByteArray) (x3 : Bool) :
    Calls Tryz.prog 39 #[ptrV sb, .string k, .agg #[.string x0, .bool false, .bool true, .bool x3]] w fun e w' => e = .returned (.int .i64 (t.putv k ⟨⟨#[]⟩, false, true, x3⟩).1) ∧ StAt w' B sb a (pot + 2) (t.putv k ⟨⟨#[]⟩, false, true, x3⟩).2 n ∧ FrT B a w w' := by
  obtain ⟨z, hz⟩ : ∃ z, w.heap.size = z := ⟨_, rfl⟩
  have hb0 : Below z w (w.alloc (.cells #[.string x0, .bool false, .bool true, .bool x3] 59)) := by rw [← hz]; exact Below.of_alloc w _
  have b0 : Blk (w.alloc (.cells #[.string x0, .bool false, .bool true, .bool x3] 59)) z [.string x0, .bool false, .bool true, .bool x3] 59 := by rw [← hz]; exact Blk.new w _ _
  have hW := h.below (by rw [hz]; exact hb0)
  have hi := checkName_any hW.blk k (by omega)
  unfold checkE at hi
  rw [if_pos hnm] at hi
  unfold ptrV at hi ⊢
  have hBOX := fun (W : World) (hb : Below w.heap.size w W) => h.below hb
  replace hBOX := Lib.hid hBOX
  clear h hnm
  replace hb0 := Lib.hid hb0
  replace b0 := Lib.hid b0
  replace hW := Lib.hid hW
  go_enter Tryz.func39, Tryz.ntmps39
  go_upto_region 1 with fail
  try rw [hz]
  generalize (w.alloc (.cells #[.string x0, .bool false, .bool true, .bool x3] 59)) = w1 at hb0 b0 hi hW ⊢
  replace hz := Lib.hid hz
  go_wp2_with fail
  refine hi.mono ?_
  rintro e w' ⟨rfl, hw⟩
  obtain rfl := hw.symm
  clear hi hw
  have e0 := b0.out.cell (i := 0) rfl
  have e1 := b0.out.cell (i := 1) rfl
  have f0 := b0.out.frozen 0
  have lz := b0.out.lt
  go_upto_region 6 with fail
  have hbW : Hid (Below z w (w1.setCell ⟨z, 0, none⟩ (.string ⟨#[]⟩))) := Lib.hid (hb0.out.setCell (Nat.le_refl z) _)
  have bW : Hid (Blk (w1.setCell ⟨z, 0, none⟩ (.string ⟨#[]⟩)) z [.string ⟨#[]⟩, .bool false, .bool true, .bool x3] 59) := Lib.hid (b0.out.set 0 (.string ⟨#[]⟩))
  have hW2 : Hid (StAt (w1.setCell ⟨z, 0, none⟩ (.string ⟨#[]⟩)) B sb a pot t n) := Lib.hid (hBOX.out _ (by rw [hz.out]; exact hbW.out))
  clear e0 e1 f0 lz b0 hb0 hW hBOX
  generalize w1.setCell ⟨z, 0, none⟩ (.string ⟨#[]⟩) = wW at hbW bW hW2 ⊢
  have hW := hW2
  clear hW2
  have e0 := bW.out.cell (i := 0) rfl
  have e1 := bW.out.cell (i := 1) rfl
  have e2 := bW.out.cell (i := 2) rfl
  have e3 := bW.out.cell (i := 3) rfl
  have lz := bW.out.lt
  have hd := th_putv (hW.out.below (drewN_below wW 1)).th k ⟨⟨#[]⟩, false, true, x3⟩ hk (show (⟨#[]⟩ : ByteArray).size ≤ 5000 by decide)
  unfold ptrV encV at hd
  dsimp only at hd
  have c0 : wW.cell? ⟨sb, 0, none⟩ = some (.pointer (some ⟨a.v, 0, none⟩)) := hW.out.blk.cell (i := 0) rfl
  have hlt := hW.out.blk.lt
  have hk0 : wW.drew.cell? ⟨sb, 0, none⟩ = some (.pointer (some ⟨a.v, 0, none⟩)) ∧ wW.drew.cell? ⟨z, 0, none⟩ = some (.string ⟨#[]⟩) ∧ wW.drew.cell? ⟨z, 1, none⟩ = some (.bool false) ∧ wW.drew.cell? ⟨z, 2, none⟩ = some (.bool true) ∧ wW.drew.cell? ⟨z, 3, none⟩ = some (.bool x3) := ⟨c0, e0, e1, e2, e3⟩
  replace hd := Lib.hid hd
  go_upto_region 8 with fail
  go_region_held3 (fun w' => w'.cell? ⟨sb, 0, none⟩ = some (.pointer (some ⟨a.v, 0, none⟩)) ∧ w'.cell? ⟨z, 0, none⟩ = some (.string ⟨#[]⟩) ∧ w'.cell? ⟨z, 1, none⟩ = some (.bool false) ∧ w'.cell? ⟨z, 2, none⟩ = some (.bool true) ∧ w'.cell? ⟨z, 3, none⟩ = some (.bool x3))
    (first | go_keep | exact hk0 | exact hk1)
    ((go_at_call 103; refine hd.out.mono ?_; rintro e w5 ⟨rfl, q1, q2⟩; have hS5 := (hW.out.below (drewN_below wW 1)).next q1 q2; have k5 : Blk w5 z _ _ := (hW.out.below (drewN_below wW 1)).th.keepB q2 _ _ _ (show Blk wW.drew z _ _ from bW.out) (nPk (by decide)); have hk1 : w5.cell? ⟨sb, 0, none⟩ = some (.pointer (some ⟨a.v, 0, none⟩)) ∧ w5.cell? ⟨z, 0, none⟩ = some (.string ⟨#[]⟩) ∧ w5.cell? ⟨z, 1, none⟩ = some (.bool false) ∧ w5.cell? ⟨z, 2, none⟩ = some (.bool true) ∧ w5.cell? ⟨z, 3, none⟩ = some (.bool x3) := ⟨hS5.blk.cell (i := 0) rfl, k5.cell (i := 0) rfl, k5.cell (i := 1) rfl, k5.cell (i := 2) rfl, k5.cell (i := 3) rfl⟩; clear k5; replace hS5 := Lib.hid hS5; replace q2 := Lib.hid q2; clear q1))
  have hfin : Hid (StAt w5 B sb a (pot + 2) (t.putv k ⟨⟨#[]⟩, false, true, x3⟩).2 n ∧ FrT B a w w5) := Lib.hid ⟨hS5.out, (FrT.of_below (by rw [hz.out]; exact drewB hbW.out 1)).trans q2.out⟩
  clear hd q2 c0 hk0 hk1 hlt e0 e1 e2 e3 lz hS5
  go_wp2
  go_ret
  exact ⟨rfl, hfin.out⟩
set_option maxRecDepth 100000 in
set_option maxHeartbeats 2000000 in
theorem Put_fix (h : StAt w B sb a pot t n) (k : ByteArray) (hk : k.size ≤ 200) (hnm : nameB k = true) (x0 : ByteArray) :
    Calls Tryz.prog 39 #[ptrV sb, .string k, .agg #[.string x0, .bool false, .bool false, .bool true]] w fun e w' => e = .returned (.int .i64 (t.putv k ⟨⟨#[]⟩, false, false, true⟩).1) ∧ StAt w' B sb a (pot + 2) (t.putv k ⟨⟨#[]⟩, false, false, true⟩).2 n ∧ FrT B a w w' := by
  obtain ⟨z, hz⟩ : ∃ z, w.heap.size = z := ⟨_, rfl⟩
  have hb0 : Below z w (w.alloc (.cells #[.string x0, .bool false, .bool false, .bool true] 59)) := by rw [← hz]; exact Below.of_alloc w _
  have b0 : Blk (w.alloc (.cells #[.string x0, .bool false, .bool false, .bool true] 59)) z [.string x0, .bool false, .bool false, .bool true] 59 := by rw [← hz]; exact Blk.new w _ _
  have hW := h.below (by rw [hz]; exact hb0)
  have hi := checkName_any hW.blk k (by omega)
  unfold checkE at hi
  rw [if_pos hnm] at hi
  unfold ptrV at hi ⊢
  have hBOX := fun (W : World) (hb : Below w.heap.size w W) => h.below hb
  replace hBOX := Lib.hid hBOX
  clear h hnm
  replace hb0 := Lib.hid hb0
  replace b0 := Lib.hid b0
  replace hW := Lib.hid hW
  go_enter Tryz.func39, Tryz.ntmps39
  go_upto_region 1 with fail
  try rw [hz]
  generalize (w.alloc (.cells #[.string x0, .bool false, .bool false, .bool true] 59)) = w1 at hb0 b0 hi hW ⊢
  replace hz := Lib.hid hz
  go_wp2_with fail
  refine hi.mono ?_
  rintro e w' ⟨rfl, hw⟩
  obtain rfl := hw.symm
  clear hi hw
  have e0 := b0.out.cell (i := 0) rfl
  have e1 := b0.out.cell (i := 1) rfl
  have f0 := b0.out.frozen 0
  have lz := b0.out.lt
  go_upto_region 6 with fail
  have hbW : Hid (Below z w (w1.setCell ⟨z, 0, none⟩ (.string ⟨#[]⟩))) := Lib.hid (hb0.out.setCell (Nat.le_refl z) _)
  have bW : Hid (Blk (w1.setCell ⟨z, 0, none⟩ (.string ⟨#[]⟩)) z [.string ⟨#[]⟩, .bool false, .bool false, .bool true] 59) := Lib.hid (b0.out.set 0 (.string ⟨#[]⟩))
  have hW2 : Hid (StAt (w1.setCell ⟨z, 0, none⟩ (.string ⟨#[]⟩)) B sb a pot t n) := Lib.hid (hBOX.out _ (by rw [hz.out]; exact hbW.out))
  clear e0 e1 f0 lz b0 hb0 hW hBOX
  generalize w1.setCell ⟨z, 0, none⟩ (.string ⟨#[]⟩) = wW at hbW bW hW2 ⊢
  have hW := hW2
  clear hW2
  have e0 := bW.out.cell (i := 0) rfl
  have e1 := bW.out.cell (i := 1) rfl
  have e2 := bW.out.cell (i := 2) rfl
  have e3 := bW.out.cell (i := 3) rfl
  have lz := bW.out.lt
  have hd := th_putv (hW.out.below (drewN_below wW 1)).th k ⟨⟨#[]⟩, false, false, true⟩ hk (by decide)
  unfold ptrV encV at hd
  dsimp only at hd
  have c0 : wW.cell? ⟨sb, 0, none⟩ = some (.pointer (some ⟨a.v, 0, none⟩)) := hW.out.blk.cell (i := 0) rfl
  have hlt := hW.out.blk.lt
  have hk0 : wW.drew.cell? ⟨sb, 0, none⟩ = some (.pointer (some ⟨a.v, 0, none⟩)) ∧ wW.drew.cell? ⟨z, 0, none⟩ = some (.string ⟨#[]⟩) ∧ wW.drew.cell? ⟨z, 1, none⟩ = some (.bool false) ∧ wW.drew.cell? ⟨z, 2, none⟩ = some (.bool false) ∧ wW.drew.cell? ⟨z, 3, none⟩ = some (.bool true) := ⟨c0, e0, e1, e2, e3⟩
  replace hd := Lib.hid hd
  go_upto_region 8 with fail
  go_region_held3 (fun w' => w'.cell? ⟨sb, 0, none⟩ = some (.pointer (some ⟨a.v, 0, none⟩)) ∧ w'.cell? ⟨z, 0, none⟩ = some (.string ⟨#[]⟩) ∧ w'.cell? ⟨z, 1, none⟩ = some (.bool false) ∧ w'.cell? ⟨z, 2, none⟩ = some (.bool false) ∧ w'.cell? ⟨z, 3, none⟩ = some (.bool true))
    (first | go_keep | exact hk0 | exact hk1)
    ((go_at_call 103; refine hd.out.mono ?_; rintro e w5 ⟨rfl, q1, q2⟩; have hS5 := (hW.out.below (drewN_below wW 1)).next q1 q2; have k5 : Blk w5 z _ _ := (hW.out.below (drewN_below wW 1)).th.keepB q2 _ _ _ (show Blk wW.drew z _ _ from bW.out) (nPk (by decide)); have hk1 : w5.cell? ⟨sb, 0, none⟩ = some (.pointer (some ⟨a.v, 0, none⟩)) ∧ w5.cell? ⟨z, 0, none⟩ = some (.string ⟨#[]⟩) ∧ w5.cell? ⟨z, 1, none⟩ = some (.bool false) ∧ w5.cell? ⟨z, 2, none⟩ = some (.bool false) ∧ w5.cell? ⟨z, 3, none⟩ = some (.bool true) := ⟨hS5.blk.cell (i := 0) rfl, k5.cell (i := 0) rfl, k5.cell (i := 1) rfl, k5.cell (i := 2) rfl, k5.cell (i := 3) rfl⟩; clear k5; replace hS5 := Lib.hid hS5; replace q2 := Lib.hid q2; clear q1))
  have hfin : Hid (StAt w5 B sb a (pot + 2) (t.putv k ⟨⟨#[]⟩, false, false, true⟩).2 n ∧ FrT B a w w5) := Lib.hid ⟨hS5.out, (FrT.of_below (by rw [hz.out]; exact drewB hbW.out 1)).trans q2.out⟩
  clear hd q2 c0 hk0 hk1 hlt e0 e1 e2 e3 lz hS5
  go_wp2
  go_ret
  exact ⟨rfl, hfin.out⟩
set_option maxRecDepth 100000 in
set_option maxHeartbeats 2000000 in
theorem Put_no (h : StAt w B sb a pot t n) (k : ByteArray) (hk : k.size ≤ 200) (hnm : nameB k = true) (x0 : ByteArray) :
    Calls Tryz.prog 39 #[ptrV sb, .string k, .agg #[.string x0, .bool false, .bool false, .bool false]] w fun e w' => e = .returned (.int .i64 (t.delv k).1) ∧ StAt w' B sb a (pot + 2) (t.delv k).2 n ∧ FrT B a w w' := by
  obtain ⟨z, hz⟩ : ∃ z, w.heap.size = z := ⟨_, rfl⟩
  have hb0 : Below z w (w.alloc (.cells #[.string x0, .bool false, .bool false, .bool false] 59)) := by rw [← hz]; exact Below.of_alloc w _
  have b0 : Blk (w.alloc (.cells #[.string x0, .bool false, .bool false, .bool false] 59)) z [.string x0, .bool false, .bool false, .bool false] 59 := by rw [← hz]; exact Blk.new w _ _
  have hW := h.below (by rw [hz]; exact hb0)
  have hi := checkName_any hW.blk k (by omega)
  unfold checkE at hi
  rw [if_pos hnm] at hi
  unfold ptrV at hi ⊢
  have hBOX := fun (W : World) (hb : Below w.heap.size w W) => h.below hb
  replace hBOX := Lib.hid hBOX
  clear h hnm
  replace hb0 := Lib.hid hb0
  replace b0 := Lib.hid b0
  replace hW := Lib.hid hW
  go_enter Tryz.func39, Tryz.ntmps39
  go_upto_region 1 with fail
  try rw [hz]
  generalize (w.alloc (.cells #[.string x0, .bool false, .bool false, .bool false] 59)) = w1 at hb0 b0 hi hW ⊢
  replace hz := Lib.hid hz
  go_wp2_with fail
  refine hi.mono ?_
  rintro e w' ⟨rfl, hw⟩
  obtain rfl := hw.symm
  clear hi hw
  have e0 := b0.out.cell (i := 0) rfl
  have e1 := b0.out.cell (i := 1) rfl
  have f0 := b0.out.frozen 0
  have lz := b0.out.lt
  go_upto_region 6 with fail
  have hbW : Hid (Below z w (w1.setCell ⟨z, 0, none⟩ (.string ⟨#[]⟩))) := Lib.hid (hb0.out.setCell (Nat.le_refl z) _)
  have bW : Hid (Blk (w1.setCell ⟨z, 0, none⟩ (.string ⟨#[]⟩)) z [.string ⟨#[]⟩, .bool false, .bool false, .bool false] 59) := Lib.hid (b0.out.set 0 (.string ⟨#[]⟩))
  have hW2 : Hid (StAt (w1.setCell ⟨z, 0, none⟩ (.string ⟨#[]⟩)) B sb a pot t n) := Lib.hid (hBOX.out _ (by rw [hz.out]; exact hbW.out))
  clear e0 e1 f0 lz b0 hb0 hW hBOX
  generalize w1.setCell ⟨z, 0, none⟩ (.string ⟨#[]⟩) = wW at hbW bW hW2 ⊢
  have hW := hW2
  clear hW2
  have e0 := bW.out.cell (i := 0) rfl
  have e1 := bW.out.cell (i := 1) rfl
  have e2 := bW.out.cell (i := 2) rfl
  have e3 := bW.out.cell (i := 3) rfl
  have lz := bW.out.lt
  have hd := th_delv hW.out.th k
  have c0 := hW.out.blk.cell (i := 0) rfl
  have hlt := hW.out.blk.lt
  unfold ptrV at hd c0
  go_wp2_with fail
  refine hd.mono ?_
  rintro e w5 ⟨rfl, q1, q2⟩
  have hfin : Hid (StAt w5 B sb a (pot + 2) (t.delv k).2 n ∧ FrT B a w w5) := Lib.hid ⟨hW.out.next q1 q2, (FrT.of_below (by rw [hz.out]; exact hbW.out)).trans q2⟩
  clear hd q1 q2 c0 hlt e0 e1 e2 e3 lz
  go_wp2
  go_ret
  exact ⟨rfl, hfin.out⟩
set_option maxRecDepth 100000 in
theorem Put_bad (h : StAt w B sb a pot t n) (k : ByteArray) (hk : k.size ≤ 1000000) (hnm : ¬ nameB k = true) (x0 : ByteArray) (x1 x2 x3 : Bool) :
    Calls Tryz.prog 39 #[ptrV sb, .string k, .agg #[.string x0, .bool x1, .bool x2, .bool x3]] w fun e w' => e = .returned (.int .i64 16) ∧ Below w.heap.size w w' := by
  have hb0 : Below w.heap.size w (w.alloc (.cells #[.string x0, .bool x1, .bool x2, .bool x3] 59)) := Below.of_alloc w _
  have hW := h.below hb0
  have hi := checkName_any hW.blk k hk
  unfold checkE at hi
  rw [if_neg hnm] at hi
  unfold ptrV at hi ⊢
  clear h hnm hW
  replace hb0 := Lib.hid hb0
  go_enter Tryz.func39, Tryz.ntmps39
  go_upto_region 1 with fail
  generalize (w.alloc (.cells #[.string x0, .bool x1, .bool x2, .bool x3] 59)) = w1 at hb0 hi ⊢
  go_wp2_with fail
  refine hi.mono ?_
  rintro e w' ⟨rfl, hw⟩
  obtain rfl := hw.symm
  go_wp2
  go_ret
  exact ⟨rfl, hb0.out⟩
theorem Put_any (h : StAt w B sb a pot t n) (k : ByteArray) (hk : k.size ≤ 200) (x : Vr) (hx : x.v.size ≤ 5000) :
    Calls Tryz.prog 39 #[ptrV sb, .string k, encV x] w fun e w' => e = .returned (.int .i64 (t.put k x).1) ∧ StAt w' B sb a (pot + 2) (t.put k x).2 n ∧ FrT B a w w' := by
  obtain ⟨x0, x1, x2, x3⟩ := x
  by_cases hnm : nameB k = true
  · have hT : ∀ y, t.put k y = if bareV y = noV then t.delv k else t.putv k (bareV y) := fun y => by unfold Tg.put; rw [if_pos hnm]
    cases x1
    · cases x2
      · cases x3
        · rw [show t.put k ⟨x0, false, false, false⟩ = t.delv k from (hT _).trans (if_pos rfl)]
          exact Put_no h k hk hnm x0
        · rw [show t.put k ⟨x0, false, false, true⟩ = t.putv k ⟨⟨#[]⟩, false, false, true⟩ from (hT _).trans (if_neg (fun e => by cases e))]
          exact Put_fix h k hk hnm x0
      · rw [show t.put k ⟨x0, false, true, x3⟩ = t.putv k ⟨⟨#[]⟩, false, true, x3⟩ from (hT _).trans (if_neg (fun e => by cases e))]
        exact Put_exp h k hk hnm x0 x3
    · rw [show t.put k ⟨x0, true, x2, x3⟩ = t.putv k ⟨x0, true, x2, x3⟩ from (hT _).trans (if_neg (fun e => by cases e))]
      exact Put_set h k hk hnm x0 hx x2 x3
  · rw [show t.put k ⟨x0, x1, x2, x3⟩ = (16, t) by unfold Tg.put; rw [if_neg hnm]]
    refine (Put_bad h k (by omega) hnm x0 x1 x2 x3).mono ?_
    rintro e w' ⟨rfl, hb⟩
    exact ⟨rfl, (h.below hb).mono (by omega), FrT.of_below hb⟩
end
end Go.Proofs.YtigmdfdcflkggaaGreat
