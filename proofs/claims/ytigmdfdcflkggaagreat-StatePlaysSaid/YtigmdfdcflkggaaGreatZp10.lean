/-
  What each call that is asked for does to what a state knows. Conditions: keys to 200 bytes, texts to 5000, 1100 texts.
-/
import Derived.Test.YtigmdfdcflkggaaGreatZp7
import Derived.Test.YtigmdfdcflkggaaGreatZp8
import Derived.Test.YtigmdfdcflkggaaGreatZp9
set_option linter.unusedSimpArgs false
set_option linter.unusedVariables false
namespace Go.Proofs.YtigmdfdcflkggaaGreat
open Go Go.RowKit Go.ChangeMaps

/-- Every block but those of a state and its log is kept. -/
def KeepD (w w' : World) : Prop := ∀ (b : Nat) cur t, Blk w b cur t → ¬ PkT t → t ≠ 110 → Blk w' b cur t
structure FrD (B : Nat) (w w' : World) : Prop where
  below : Below B w w'
  keep : KeepD w w'
/-- Traps have names of traps, and there are no more than a thousand arguments, now and at each mark. -/
def TrapK (s : Sta) : Prop := (∀ k x, s.t k = some x → trapB k = true) ∧ s.g.n ≤ 1000
def TrapN (t : Tg) : Prop := TrapK t.cur ∧ (∀ p ∈ t.was, TrapK p.2)
def oddI (q : Int) : Bool := decide (q.tmod 2 ≠ 0)
def thirdI (q : Int) : Bool := decide (q.tmod 3 = 0)
/-- What a call does: which one, what there was, what it answers, what there is. -/
inductive DoR (o : Od) (t : Tg) : Int → Int → Tg → Prop
  | set : DoR o t 0 (t.setV o.k o.s).1 (t.setV o.k o.s).2
  | unset : DoR o t 1 (t.unsetV o.k).1 (t.unsetV o.k).2
  | mark : DoR o t 2 (t.markV o.k (oddI o.n) (thirdI o.n)).1 (t.markV o.k (oddI o.n) (thirdI o.n)).2
  | setF : DoR o t 3 (t.setF o.k ⟨6, o.s⟩).1 (t.setF o.k ⟨6, o.s⟩).2
  | unsetF : DoR o t 4 (t.unsetF o.k).1 (t.unsetF o.k).2
  | setA : DoR o t 5 (t.setA o.k o.s).1 (t.setA o.k o.s).2
  | unalias : DoR o t 6 (t.unalias o.k).1 (t.unalias o.k).2
  | setT : DoR o t 7 (t.setT o.k o.s).1 (t.setT o.k o.s).2
  | untrap : DoR o t 8 (t.untrap o.k).1 (t.untrap o.k).2
  | enter (ns : List ByteArray) (h : KeysOf t.cur.t ns) : DoR o t 9 (enterL ns t).1 (enterL ns t).2
  | opt (K : Int) (hK : K = 10 ∨ K = 11) : DoR o t K (t.setO (firstB o.s) (oddI o.n)).1 (t.setO (firstB o.s) (oddI o.n)).2
  | argsN (h : 1000 < o.m ∨ greatL o.l = true) : DoR o t 12 (Tg.setArgsE o.m o.l) t
  | args (A' : Option Addr) (c' : Nat) (h1 : ¬ 1000 < o.m) (h2 : greatL o.l = false) : DoR o t 12 (t.setg ⟨A', o.m, c', 1, 0, o.l⟩).1 (t.setg ⟨A', o.m, c', 1, 0, o.l⟩).2
  | shiftN (h : o.n < 0 ∨ (t.cur.g.n : Int) < o.n) : DoR o t 13 1 t
  | shift (A' : Option Addr) (c' : Nat) (h1 : ¬ o.n < 0) (h2 : ¬ (t.cur.g.n : Int) < o.n) : DoR o t 13 (t.setg ⟨A', t.cur.g.n - o.n.toNat, c', t.cur.g.a, t.cur.g.i, t.cur.g.l.drop o.n.toNat⟩).1 (t.setg ⟨A', t.cur.g.n - o.n.toNat, c', t.cur.g.a, t.cur.g.i, t.cur.g.l.drop o.n.toNat⟩).2
  | cursor : DoR o t 14 (t.setC o.n (o.m : Int)).1 (t.setC o.n (o.m : Int)).2
  | status : DoR o t 15 0 t
  | open_ (K : Int) (hK : K = 16 ∨ K = 17) : DoR o t K t.mark.2.1 t.mark.2.2
  | undo (K : Int) (hK : 18 ≤ K) : DoR o t K t.undo.1 t.undo.2
section
variable {w w' w'' : World} {B sb : Nat} {a : Ad} {pot : Nat} {t : Tg} {n : Int}
theorem FrD.trans (h : FrD B w w') (k : FrD B w' w'') : FrD B w w'' := ⟨h.below.trans k.below, fun b cur t hb h1 h2 => k.keep b cur t (h.keep b cur t hb h1 h2) h1 h2⟩
theorem FrD.of_below (h : Below w.heap.size w w') (hB : B ≤ w.heap.size) : FrD B w w' := ⟨h.mono hB, fun b cur t hb _ _ => (h.block b hb.lt).trans hb⟩
theorem StAt.hBw (h : StAt w B sb a pot t n) : B ≤ w.heap.size := Nat.le_of_lt (Nat.lt_of_le_of_lt h.hB h.blk.lt)
theorem StAt.frD (h : StAt w B sb a pot t n) (k : FrT B a w w') : FrD B w w' := ⟨Fr.below k h.hBw, fun b cur t hb h1 _ => h.th.keepB k b cur t hb h1⟩
theorem StAt.frS (h : StAt w B sb a pot t n) (k : Stp (fun b => b = sb) w w') : FrD B w w' :=
  ⟨⟨k.os, k.tape, k.output, k.size, fun b hb => k.block b (Nat.lt_of_lt_of_le hb h.hBw) (fun e => by have := h.hB; omega)⟩, fun b cur t hb _ h2 => KeepC.of_stp h.blk k b cur t hb h2⟩
set_option maxRecDepth 100000 in
set_option maxHeartbeats 8000000 in
theorem does_0 (h : StAt w B sb a pot t n) (x : Int) (k s : ByteArray) (q : Int) (A : Option Addr) (m c : Nat) (hx : In64 x) (hn : In64 q) (hK : askI x = 0) (hk : k.size ≤ 200) (hs : s.size ≤ 5000) :
    Calls Tryz.prog 13 #[ptrV sb, ptrV a.l, .agg #[.int .i64 x, .string k, .string s, .int .i64 q, .slice A m c]] w fun e w' => e = .returned (.int .i64 (t.setV k s).1) ∧ StAt w' B sb a (pot + 10) (t.setV k s).2 n ∧ FrD B w w' := by
  obtain ⟨z, hz⟩ : ∃ z, w.heap.size = z := ⟨_, rfl⟩
  have bC : Blk (w.alloc (.cells #[.int .i64 x, .string k, .string s, .int .i64 q, .slice A m c] 39)) z [.int .i64 x, .string k, .string s, .int .i64 q, .slice A m c] 39 := by rw [← hz]; exact Blk.new w _ _
  have hb : Below w.heap.size w (w.alloc (.cells #[.int .i64 x, .string k, .string s, .int .i64 q, .slice A m c] 39)) := Below.of_alloc w _
  have hask := fun W => ask_any x k s q (.slice A m c) ⟨A, m, c, rfl⟩ hx W
  rw [hK] at hask
  unfold In64 at hn
  clear hx hK
  replace h := Lib.hid h
  replace hb := Lib.hid hb
  replace bC := Lib.hid bC
  replace hz := Lib.hid hz
  unfold ptrV
  go_enter Tryz.func13, Tryz.ntmps13
  go_upto_region 1 with fail
  try rw [hz.out]
  generalize (w.alloc (.cells #[.int .i64 x, .string k, .string s, .int .i64 q, .slice A m c] 39)) = w1 at bC hb ⊢
  have e0 := bC.out.cell (i := 0) rfl
  have e1 := bC.out.cell (i := 1) rfl
  have e2 := bC.out.cell (i := 2) rfl
  have e3 := bC.out.cell (i := 3) rfl
  have e4 := bC.out.cell (i := 4) rfl
  have lz := bC.out.lt
  have ha := hask w1
  go_wp2_with fail
  refine ha.mono ?_
  rintro e w2 ⟨rfl, hb2⟩
  have bD : Blk w2 z _ _ := (hb2.block z lz).trans bC.out
  have hbD := hb.out.trans (hb2.mono hb.out.size)
  have hS := h.out.below hbD
  have hF := FrD.of_below hbD h.out.hBw
  clear e0 e1 e2 e3 e4 lz ha hask bC hb hb2 h
  have e0 := bD.cell (i := 0) rfl
  have e1 := bD.cell (i := 1) rfl
  have e2 := bD.cell (i := 2) rfl
  have e3 := bD.cell (i := 3) rfl
  have e4 := bD.cell (i := 4) rfl
  have lz := bD.lt
  replace bD := Lib.hid bD
  replace hbD := Lib.hid hbD
  have hc := Set_any hS k s hk (by omega)
  unfold ptrV at hc
  replace hS := Lib.hid hS
  replace hF := Lib.hid hF
  go_wp2_with fail
  refine hc.mono ?_
  rintro e w3 ⟨rfl, q1, q2⟩
  have hfin : Hid (StAt w3 B sb a (pot + 10) _ n ∧ FrD B w w3) := Lib.hid ⟨q1.mono (by omega), hF.out.trans (hS.out.frD q2)⟩
  clear hc q1 q2 e0 e1 e2 e3 e4 lz hS hF
  go_wp2
  go_ret
  exact ⟨rfl, hfin.out⟩
set_option maxRecDepth 100000 in
set_option maxHeartbeats 8000000 in
theorem does_1 (h : StAt w B sb a pot t n) (x : Int) (k s : ByteArray) (q : Int) (A : Option Addr) (m c : Nat) (hx : In64 x) (hn : In64 q) (hK : askI x = 1) (hk : k.size ≤ 200) (hs : s.size ≤ 5000) :
    Calls Tryz.prog 13 #[ptrV sb, ptrV a.l, .agg #[.int .i64 x, .string k, .string s, .int .i64 q, .slice A m c]] w fun e w' => e = .returned (.int .i64 (t.unsetV k).1) ∧ StAt w' B sb a (pot + 10) (t.unsetV k).2 n ∧ FrD B w w' := by
  obtain ⟨z, hz⟩ : ∃ z, w.heap.size = z := ⟨_, rfl⟩
  have bC : Blk (w.alloc (.cells #[.int .i64 x, .string k, .string s, .int .i64 q, .slice A m c] 39)) z [.int .i64 x, .string k, .string s, .int .i64 q, .slice A m c] 39 := by rw [← hz]; exact Blk.new w _ _
  have hb : Below w.heap.size w (w.alloc (.cells #[.int .i64 x, .string k, .string s, .int .i64 q, .slice A m c] 39)) := Below.of_alloc w _
  have hask := fun W => ask_any x k s q (.slice A m c) ⟨A, m, c, rfl⟩ hx W
  rw [hK] at hask
  unfold In64 at hn
  clear hx hK
  replace h := Lib.hid h
  replace hb := Lib.hid hb
  replace bC := Lib.hid bC
  replace hz := Lib.hid hz
  unfold ptrV
  go_enter Tryz.func13, Tryz.ntmps13
  go_upto_region 1 with fail
  try rw [hz.out]
  generalize (w.alloc (.cells #[.int .i64 x, .string k, .string s, .int .i64 q, .slice A m c] 39)) = w1 at bC hb ⊢
  have e0 := bC.out.cell (i := 0) rfl
  have e1 := bC.out.cell (i := 1) rfl
  have e2 := bC.out.cell (i := 2) rfl
  have e3 := bC.out.cell (i := 3) rfl
  have e4 := bC.out.cell (i := 4) rfl
  have lz := bC.out.lt
  have ha := hask w1
  go_wp2_with fail
  refine ha.mono ?_
  rintro e w2 ⟨rfl, hb2⟩
  have bD : Blk w2 z _ _ := (hb2.block z lz).trans bC.out
  have hbD := hb.out.trans (hb2.mono hb.out.size)
  have hS := h.out.below hbD
  have hF := FrD.of_below hbD h.out.hBw
  clear e0 e1 e2 e3 e4 lz ha hask bC hb hb2 h
  have e0 := bD.cell (i := 0) rfl
  have e1 := bD.cell (i := 1) rfl
  have e2 := bD.cell (i := 2) rfl
  have e3 := bD.cell (i := 3) rfl
  have e4 := bD.cell (i := 4) rfl
  have lz := bD.lt
  replace bD := Lib.hid bD
  replace hbD := Lib.hid hbD
  have hc := Unset_any hS k hk
  unfold ptrV at hc
  replace hS := Lib.hid hS
  replace hF := Lib.hid hF
  go_wp2_with fail
  refine hc.mono ?_
  rintro e w3 ⟨rfl, q1, q2⟩
  have hfin : Hid (StAt w3 B sb a (pot + 10) _ n ∧ FrD B w w3) := Lib.hid ⟨q1.mono (by omega), hF.out.trans (hS.out.frD q2)⟩
  clear hc q1 q2 e0 e1 e2 e3 e4 lz hS hF
  go_wp2
  go_ret
  exact ⟨rfl, hfin.out⟩
set_option maxRecDepth 100000 in
set_option maxHeartbeats 8000000 in
theorem does_4 (h : StAt w B sb a pot t n) (x : Int) (k s : ByteArray) (q : Int) (A : Option Addr) (m c : Nat) (hx : In64 x) (hn : In64 q) (hK : askI x = 4) (hk : k.size ≤ 200) (hs : s.size ≤ 5000) :
    Calls Tryz.prog 13 #[ptrV sb, ptrV a.l, .agg #[.int .i64 x, .string k, .string s, .int .i64 q, .slice A m c]] w fun e w' => e = .returned (.int .i64 (t.unsetF k).1) ∧ StAt w' B sb a (pot + 10) (t.unsetF k).2 n ∧ FrD B w w' := by
  obtain ⟨z, hz⟩ : ∃ z, w.heap.size = z := ⟨_, rfl⟩
  have bC : Blk (w.alloc (.cells #[.int .i64 x, .string k, .string s, .int .i64 q, .slice A m c] 39)) z [.int .i64 x, .string k, .string s, .int .i64 q, .slice A m c] 39 := by rw [← hz]; exact Blk.new w _ _
  have hb : Below w.heap.size w (w.alloc (.cells #[.int .i64 x, .string k, .string s, .int .i64 q, .slice A m c] 39)) := Below.of_alloc w _
  have hask := fun W => ask_any x k s q (.slice A m c) ⟨A, m, c, rfl⟩ hx W
  rw [hK] at hask
  unfold In64 at hn
  clear hx hK
  replace h := Lib.hid h
  replace hb := Lib.hid hb
  replace bC := Lib.hid bC
  replace hz := Lib.hid hz
  unfold ptrV
  go_enter Tryz.func13, Tryz.ntmps13
  go_upto_region 1 with fail
  try rw [hz.out]
  generalize (w.alloc (.cells #[.int .i64 x, .string k, .string s, .int .i64 q, .slice A m c] 39)) = w1 at bC hb ⊢
  have e0 := bC.out.cell (i := 0) rfl
  have e1 := bC.out.cell (i := 1) rfl
  have e2 := bC.out.cell (i := 2) rfl
  have e3 := bC.out.cell (i := 3) rfl
  have e4 := bC.out.cell (i := 4) rfl
  have lz := bC.out.lt
  have ha := hask w1
  go_wp2_with fail
  refine ha.mono ?_
  rintro e w2 ⟨rfl, hb2⟩
  have bD : Blk w2 z _ _ := (hb2.block z lz).trans bC.out
  have hbD := hb.out.trans (hb2.mono hb.out.size)
  have hS := h.out.below hbD
  have hF := FrD.of_below hbD h.out.hBw
  clear e0 e1 e2 e3 e4 lz ha hask bC hb hb2 h
  have e0 := bD.cell (i := 0) rfl
  have e1 := bD.cell (i := 1) rfl
  have e2 := bD.cell (i := 2) rfl
  have e3 := bD.cell (i := 3) rfl
  have e4 := bD.cell (i := 4) rfl
  have lz := bD.lt
  replace bD := Lib.hid bD
  replace hbD := Lib.hid hbD
  have hc := UnsetFunc_any hS k hk
  unfold ptrV at hc
  replace hS := Lib.hid hS
  replace hF := Lib.hid hF
  go_wp2_with fail
  refine hc.mono ?_
  rintro e w3 ⟨rfl, q1, q2⟩
  have hfin : Hid (StAt w3 B sb a (pot + 10) _ n ∧ FrD B w w3) := Lib.hid ⟨q1.mono (by omega), hF.out.trans (hS.out.frD q2)⟩
  clear hc q1 q2 e0 e1 e2 e3 e4 lz hS hF
  go_wp2
  go_ret
  exact ⟨rfl, hfin.out⟩
set_option maxRecDepth 100000 in
set_option maxHeartbeats 8000000 in
theorem does_5 (h : StAt w B sb a pot t n) (x : Int) (k s : ByteArray) (q : Int) (A : Option Addr) (m c : Nat) (hx : In64 x) (hn : In64 q) (hK : askI x = 5) (hk : k.size ≤ 200) (hs : s.size ≤ 5000) :
    Calls Tryz.prog 13 #[ptrV sb, ptrV a.l, .agg #[.int .i64 x, .string k, .string s, .int .i64 q, .slice A m c]] w fun e w' => e = .returned (.int .i64 (t.setA k s).1) ∧ StAt w' B sb a (pot + 10) (t.setA k s).2 n ∧ FrD B w w' := by
  obtain ⟨z, hz⟩ : ∃ z, w.heap.size = z := ⟨_, rfl⟩
  have bC : Blk (w.alloc (.cells #[.int .i64 x, .string k, .string s, .int .i64 q, .slice A m c] 39)) z [.int .i64 x, .string k, .string s, .int .i64 q, .slice A m c] 39 := by rw [← hz]; exact Blk.new w _ _
  have hb : Below w.heap.size w (w.alloc (.cells #[.int .i64 x, .string k, .string s, .int .i64 q, .slice A m c] 39)) := Below.of_alloc w _
  have hask := fun W => ask_any x k s q (.slice A m c) ⟨A, m, c, rfl⟩ hx W
  rw [hK] at hask
  unfold In64 at hn
  clear hx hK
  replace h := Lib.hid h
  replace hb := Lib.hid hb
  replace bC := Lib.hid bC
  replace hz := Lib.hid hz
  unfold ptrV
  go_enter Tryz.func13, Tryz.ntmps13
  go_upto_region 1 with fail
  try rw [hz.out]
  generalize (w.alloc (.cells #[.int .i64 x, .string k, .string s, .int .i64 q, .slice A m c] 39)) = w1 at bC hb ⊢
  have e0 := bC.out.cell (i := 0) rfl
  have e1 := bC.out.cell (i := 1) rfl
  have e2 := bC.out.cell (i := 2) rfl
  have e3 := bC.out.cell (i := 3) rfl
  have e4 := bC.out.cell (i := 4) rfl
  have lz := bC.out.lt
  have ha := hask w1
  go_wp2_with fail
  refine ha.mono ?_
  rintro e w2 ⟨rfl, hb2⟩
  have bD : Blk w2 z _ _ := (hb2.block z lz).trans bC.out
  have hbD := hb.out.trans (hb2.mono hb.out.size)
  have hS := h.out.below hbD
  have hF := FrD.of_below hbD h.out.hBw
  clear e0 e1 e2 e3 e4 lz ha hask bC hb hb2 h
  have e0 := bD.cell (i := 0) rfl
  have e1 := bD.cell (i := 1) rfl
  have e2 := bD.cell (i := 2) rfl
  have e3 := bD.cell (i := 3) rfl
  have e4 := bD.cell (i := 4) rfl
  have lz := bD.lt
  replace bD := Lib.hid bD
  replace hbD := Lib.hid hbD
  have hc := SetAlias_any hS k s hk (by omega)
  unfold ptrV at hc
  replace hS := Lib.hid hS
  replace hF := Lib.hid hF
  go_wp2_with fail
  refine hc.mono ?_
  rintro e w3 ⟨rfl, q1, q2⟩
  have hfin : Hid (StAt w3 B sb a (pot + 10) _ n ∧ FrD B w w3) := Lib.hid ⟨q1.mono (by omega), hF.out.trans (hS.out.frD q2)⟩
  clear hc q1 q2 e0 e1 e2 e3 e4 lz hS hF
  go_wp2
  go_ret
  exact ⟨rfl, hfin.out⟩
set_option maxRecDepth 100000 in
set_option maxHeartbeats 8000000 in
theorem does_6 (h : StAt w B sb a pot t n) (x : Int) (k s : ByteArray) (q : Int) (A : Option Addr) (m c : Nat) (hx : In64 x) (hn : In64 q) (hK : askI x = 6) (hk : k.size ≤ 200) (hs : s.size ≤ 5000) :
    Calls Tryz.prog 13 #[ptrV sb, ptrV a.l, .agg #[.int .i64 x, .string k, .string s, .int .i64 q, .slice A m c]] w fun e w' => e = .returned (.int .i64 (t.unalias k).1) ∧ StAt w' B sb a (pot + 10) (t.unalias k).2 n ∧ FrD B w w' := by
  obtain ⟨z, hz⟩ : ∃ z, w.heap.size = z := ⟨_, rfl⟩
  have bC : Blk (w.alloc (.cells #[.int .i64 x, .string k, .string s, .int .i64 q, .slice A m c] 39)) z [.int .i64 x, .string k, .string s, .int .i64 q, .slice A m c] 39 := by rw [← hz]; exact Blk.new w _ _
  have hb : Below w.heap.size w (w.alloc (.cells #[.int .i64 x, .string k, .string s, .int .i64 q, .slice A m c] 39)) := Below.of_alloc w _
  have hask := fun W => ask_any x k s q (.slice A m c) ⟨A, m, c, rfl⟩ hx W
  rw [hK] at hask
  unfold In64 at hn
  clear hx hK
  replace h := Lib.hid h
  replace hb := Lib.hid hb
  replace bC := Lib.hid bC
  replace hz := Lib.hid hz
  unfold ptrV
  go_enter Tryz.func13, Tryz.ntmps13
  go_upto_region 1 with fail
  try rw [hz.out]
  generalize (w.alloc (.cells #[.int .i64 x, .string k, .string s, .int .i64 q, .slice A m c] 39)) = w1 at bC hb ⊢
  have e0 := bC.out.cell (i := 0) rfl
  have e1 := bC.out.cell (i := 1) rfl
  have e2 := bC.out.cell (i := 2) rfl
  have e3 := bC.out.cell (i := 3) rfl
  have e4 := bC.out.cell (i := 4) rfl
  have lz := bC.out.lt
  have ha := hask w1
  go_wp2_with fail
  refine ha.mono ?_
  rintro e w2 ⟨rfl, hb2⟩
  have bD : Blk w2 z _ _ := (hb2.block z lz).trans bC.out
  have hbD := hb.out.trans (hb2.mono hb.out.size)
  have hS := h.out.below hbD
  have hF := FrD.of_below hbD h.out.hBw
  clear e0 e1 e2 e3 e4 lz ha hask bC hb hb2 h
  have e0 := bD.cell (i := 0) rfl
  have e1 := bD.cell (i := 1) rfl
  have e2 := bD.cell (i := 2) rfl
  have e3 := bD.cell (i := 3) rfl
  have e4 := bD.cell (i := 4) rfl
  have lz := bD.lt
  replace bD := Lib.hid bD
  replace hbD := Lib.hid hbD
  have hc := Unalias_any hS k
  unfold ptrV at hc
  replace hS := Lib.hid hS
  replace hF := Lib.hid hF
  go_wp2_with fail
  refine hc.mono ?_
  rintro e w3 ⟨rfl, q1, q2⟩
  have hfin : Hid (StAt w3 B sb a (pot + 10) _ n ∧ FrD B w w3) := Lib.hid ⟨q1.mono (by omega), hF.out.trans (hS.out.frD q2)⟩
  clear hc q1 q2 e0 e1 e2 e3 e4 lz hS hF
  go_wp2
  go_ret
  exact ⟨rfl, hfin.out⟩
set_option maxRecDepth 100000 in
set_option maxHeartbeats 8000000 in
theorem does_7 (h : StAt w B sb a pot t n) (x : Int) (k s : ByteArray) (q : Int) (A : Option Addr) (m c : Nat) (hx : In64 x) (hn : In64 q) (hK : askI x = 7) (hk : k.size ≤ 200) (hs : s.size ≤ 5000) :
    Calls Tryz.prog 13 #[ptrV sb, ptrV a.l, .agg #[.int .i64 x, .string k, .string s, .int .i64 q, .slice A m c]] w fun e w' => e = .returned (.int .i64 (t.setT k s).1) ∧ StAt w' B sb a (pot + 10) (t.setT k s).2 n ∧ FrD B w w' := by
  obtain ⟨z, hz⟩ : ∃ z, w.heap.size = z := ⟨_, rfl⟩
  have bC : Blk (w.alloc (.cells #[.int .i64 x, .string k, .string s, .int .i64 q, .slice A m c] 39)) z [.int .i64 x, .string k, .string s, .int .i64 q, .slice A m c] 39 := by rw [← hz]; exact Blk.new w _ _
  have hb : Below w.heap.size w (w.alloc (.cells #[.int .i64 x, .string k, .string s, .int .i64 q, .slice A m c] 39)) := Below.of_alloc w _
  have hask := fun W => ask_any x k s q (.slice A m c) ⟨A, m, c, rfl⟩ hx W
  rw [hK] at hask
  unfold In64 at hn
  clear hx hK
  replace h := Lib.hid h
  replace hb := Lib.hid hb
  replace bC := Lib.hid bC
  replace hz := Lib.hid hz
  unfold ptrV
  go_enter Tryz.func13, Tryz.ntmps13
  go_upto_region 1 with fail
  try rw [hz.out]
  generalize (w.alloc (.cells #[.int .i64 x, .string k, .string s, .int .i64 q, .slice A m c] 39)) = w1 at bC hb ⊢
  have e0 := bC.out.cell (i := 0) rfl
  have e1 := bC.out.cell (i := 1) rfl
  have e2 := bC.out.cell (i := 2) rfl
  have e3 := bC.out.cell (i := 3) rfl
  have e4 := bC.out.cell (i := 4) rfl
  have lz := bC.out.lt
  have ha := hask w1
  go_wp2_with fail
  refine ha.mono ?_
  rintro e w2 ⟨rfl, hb2⟩
  have bD : Blk w2 z _ _ := (hb2.block z lz).trans bC.out
  have hbD := hb.out.trans (hb2.mono hb.out.size)
  have hS := h.out.below hbD
  have hF := FrD.of_below hbD h.out.hBw
  clear e0 e1 e2 e3 e4 lz ha hask bC hb hb2 h
  have e0 := bD.cell (i := 0) rfl
  have e1 := bD.cell (i := 1) rfl
  have e2 := bD.cell (i := 2) rfl
  have e3 := bD.cell (i := 3) rfl
  have e4 := bD.cell (i := 4) rfl
  have lz := bD.lt
  replace bD := Lib.hid bD
  replace hbD := Lib.hid hbD
  have hc := SetTrap_any hS k s hk (by omega)
  unfold ptrV at hc
  replace hS := Lib.hid hS
  replace hF := Lib.hid hF
  go_wp2_with fail
  refine hc.mono ?_
  rintro e w3 ⟨rfl, q1, q2⟩
  have hfin : Hid (StAt w3 B sb a (pot + 10) _ n ∧ FrD B w w3) := Lib.hid ⟨q1.mono (by omega), hF.out.trans (hS.out.frD q2)⟩
  clear hc q1 q2 e0 e1 e2 e3 e4 lz hS hF
  go_wp2
  go_ret
  exact ⟨rfl, hfin.out⟩
set_option maxRecDepth 100000 in
set_option maxHeartbeats 8000000 in
theorem does_8 (h : StAt w B sb a pot t n) (x : Int) (k s : ByteArray) (q : Int) (A : Option Addr) (m c : Nat) (hx : In64 x) (hn : In64 q) (hK : askI x = 8) (hk : k.size ≤ 200) (hs : s.size ≤ 5000) :
    Calls Tryz.prog 13 #[ptrV sb, ptrV a.l, .agg #[.int .i64 x, .string k, .string s, .int .i64 q, .slice A m c]] w fun e w' => e = .returned (.int .i64 (t.untrap k).1) ∧ StAt w' B sb a (pot + 10) (t.untrap k).2 n ∧ FrD B w w' := by
  obtain ⟨z, hz⟩ : ∃ z, w.heap.size = z := ⟨_, rfl⟩
  have bC : Blk (w.alloc (.cells #[.int .i64 x, .string k, .string s, .int .i64 q, .slice A m c] 39)) z [.int .i64 x, .string k, .string s, .int .i64 q, .slice A m c] 39 := by rw [← hz]; exact Blk.new w _ _
  have hb : Below w.heap.size w (w.alloc (.cells #[.int .i64 x, .string k, .string s, .int .i64 q, .slice A m c] 39)) := Below.of_alloc w _
  have hask := fun W => ask_any x k s q (.slice A m c) ⟨A, m, c, rfl⟩ hx W
  rw [hK] at hask
  unfold In64 at hn
  clear hx hK
  replace h := Lib.hid h
  replace hb := Lib.hid hb
  replace bC := Lib.hid bC
  replace hz := Lib.hid hz
  unfold ptrV
  go_enter Tryz.func13, Tryz.ntmps13
  go_upto_region 1 with fail
  try rw [hz.out]
  generalize (w.alloc (.cells #[.int .i64 x, .string k, .string s, .int .i64 q, .slice A m c] 39)) = w1 at bC hb ⊢
  have e0 := bC.out.cell (i := 0) rfl
  have e1 := bC.out.cell (i := 1) rfl
  have e2 := bC.out.cell (i := 2) rfl
  have e3 := bC.out.cell (i := 3) rfl
  have e4 := bC.out.cell (i := 4) rfl
  have lz := bC.out.lt
  have ha := hask w1
  go_wp2_with fail
  refine ha.mono ?_
  rintro e w2 ⟨rfl, hb2⟩
  have bD : Blk w2 z _ _ := (hb2.block z lz).trans bC.out
  have hbD := hb.out.trans (hb2.mono hb.out.size)
  have hS := h.out.below hbD
  have hF := FrD.of_below hbD h.out.hBw
  clear e0 e1 e2 e3 e4 lz ha hask bC hb hb2 h
  have e0 := bD.cell (i := 0) rfl
  have e1 := bD.cell (i := 1) rfl
  have e2 := bD.cell (i := 2) rfl
  have e3 := bD.cell (i := 3) rfl
  have e4 := bD.cell (i := 4) rfl
  have lz := bD.lt
  replace bD := Lib.hid bD
  replace hbD := Lib.hid hbD
  have hc := Untrap_any hS k
  unfold ptrV at hc
  replace hS := Lib.hid hS
  replace hF := Lib.hid hF
  go_wp2_with fail
  refine hc.mono ?_
  rintro e w3 ⟨rfl, q1, q2⟩
  have hfin : Hid (StAt w3 B sb a (pot + 10) _ n ∧ FrD B w w3) := Lib.hid ⟨q1.mono (by omega), hF.out.trans (hS.out.frD q2)⟩
  clear hc q1 q2 e0 e1 e2 e3 e4 lz hS hF
  go_wp2
  go_ret
  exact ⟨rfl, hfin.out⟩
set_option maxRecDepth 100000 in
set_option maxHeartbeats 8000000 in
theorem does_20 (h : StAt w B sb a pot t n) (x : Int) (k s : ByteArray) (q : Int) (A : Option Addr) (m c : Nat) (hx : In64 x) (hn : In64 q) (hK : askI x = 2) (hk : k.size ≤ 200) (hs : s.size ≤ 5000) (h2 : q.tmod 2 = 0) (h3 : ¬ q.tmod 3 = 0) :
    Calls Tryz.prog 13 #[ptrV sb, ptrV a.l, .agg #[.int .i64 x, .string k, .string s, .int .i64 q, .slice A m c]] w fun e w' => e = .returned (.int .i64 (t.markV k false false).1) ∧ StAt w' B sb a (pot + 10) (t.markV k false false).2 n ∧ FrD B w w' := by
  obtain ⟨z, hz⟩ : ∃ z, w.heap.size = z := ⟨_, rfl⟩
  have bC : Blk (w.alloc (.cells #[.int .i64 x, .string k, .string s, .int .i64 q, .slice A m c] 39)) z [.int .i64 x, .string k, .string s, .int .i64 q, .slice A m c] 39 := by rw [← hz]; exact Blk.new w _ _
  have hb : Below w.heap.size w (w.alloc (.cells #[.int .i64 x, .string k, .string s, .int .i64 q, .slice A m c] 39)) := Below.of_alloc w _
  have hask := fun W => ask_any x k s q (.slice A m c) ⟨A, m, c, rfl⟩ hx W
  rw [hK] at hask
  unfold In64 at hn
  clear hx hK
  replace h := Lib.hid h
  replace hb := Lib.hid hb
  replace bC := Lib.hid bC
  replace hz := Lib.hid hz
  have h3b : (q.tmod 3 == 0) = false := beq_eq_false_iff_ne.2 h3
  clear h3
  unfold ptrV
  go_enter Tryz.func13, Tryz.ntmps13
  go_upto_region 1 with fail
  try rw [hz.out]
  generalize (w.alloc (.cells #[.int .i64 x, .string k, .string s, .int .i64 q, .slice A m c] 39)) = w1 at bC hb ⊢
  have e0 := bC.out.cell (i := 0) rfl
  have e1 := bC.out.cell (i := 1) rfl
  have e2 := bC.out.cell (i := 2) rfl
  have e3 := bC.out.cell (i := 3) rfl
  have e4 := bC.out.cell (i := 4) rfl
  have lz := bC.out.lt
  have ha := hask w1
  go_wp2_with fail
  refine ha.mono ?_
  rintro e w2 ⟨rfl, hb2⟩
  have bD : Blk w2 z _ _ := (hb2.block z lz).trans bC.out
  have hbD := hb.out.trans (hb2.mono hb.out.size)
  have hS := h.out.below hbD
  have hF := FrD.of_below hbD h.out.hBw
  clear e0 e1 e2 e3 e4 lz ha hask bC hb hb2 h
  have e0 := bD.cell (i := 0) rfl
  have e1 := bD.cell (i := 1) rfl
  have e2 := bD.cell (i := 2) rfl
  have e3 := bD.cell (i := 3) rfl
  have e4 := bD.cell (i := 4) rfl
  have lz := bD.lt
  replace bD := Lib.hid bD
  replace hbD := Lib.hid hbD
  have hc := Mark_any hS k hk false false
  unfold ptrV at hc
  replace hS := Lib.hid hS
  replace hF := Lib.hid hF
  go_wp2_with fail
  refine hc.mono ?_
  rintro e w3 ⟨rfl, q1, q2⟩
  have hfin : Hid (StAt w3 B sb a (pot + 10) _ n ∧ FrD B w w3) := Lib.hid ⟨q1.mono (by omega), hF.out.trans (hS.out.frD q2)⟩
  clear hc q1 q2 e0 e1 e2 e3 e4 lz hS hF
  go_wp2
  go_ret
  exact ⟨rfl, hfin.out⟩
set_option maxRecDepth 100000 in
set_option maxHeartbeats 8000000 in
theorem does_21 (h : StAt w B sb a pot t n) (x : Int) (k s : ByteArray) (q : Int) (A : Option Addr) (m c : Nat) (hx : In64 x) (hn : In64 q) (hK : askI x = 2) (hk : k.size ≤ 200) (hs : s.size ≤ 5000) (h2 : q.tmod 2 = 0) (h3 : q.tmod 3 = 0) :
    Calls Tryz.prog 13 #[ptrV sb, ptrV a.l, .agg #[.int .i64 x, .string k, .string s, .int .i64 q, .slice A m c]] w fun e w' => e = .returned (.int .i64 (t.markV k false true).1) ∧ StAt w' B sb a (pot + 10) (t.markV k false true).2 n ∧ FrD B w w' := by
  obtain ⟨z, hz⟩ : ∃ z, w.heap.size = z := ⟨_, rfl⟩
  have bC : Blk (w.alloc (.cells #[.int .i64 x, .string k, .string s, .int .i64 q, .slice A m c] 39)) z [.int .i64 x, .string k, .string s, .int .i64 q, .slice A m c] 39 := by rw [← hz]; exact Blk.new w _ _
  have hb : Below w.heap.size w (w.alloc (.cells #[.int .i64 x, .string k, .string s, .int .i64 q, .slice A m c] 39)) := Below.of_alloc w _
  have hask := fun W => ask_any x k s q (.slice A m c) ⟨A, m, c, rfl⟩ hx W
  rw [hK] at hask
  unfold In64 at hn
  clear hx hK
  replace h := Lib.hid h
  replace hb := Lib.hid hb
  replace bC := Lib.hid bC
  replace hz := Lib.hid hz
  unfold ptrV
  go_enter Tryz.func13, Tryz.ntmps13
  go_upto_region 1 with fail
  try rw [hz.out]
  generalize (w.alloc (.cells #[.int .i64 x, .string k, .string s, .int .i64 q, .slice A m c] 39)) = w1 at bC hb ⊢
  have e0 := bC.out.cell (i := 0) rfl
  have e1 := bC.out.cell (i := 1) rfl
  have e2 := bC.out.cell (i := 2) rfl
  have e3 := bC.out.cell (i := 3) rfl
  have e4 := bC.out.cell (i := 4) rfl
  have lz := bC.out.lt
  have ha := hask w1
  go_wp2_with fail
  refine ha.mono ?_
  rintro e w2 ⟨rfl, hb2⟩
  have bD : Blk w2 z _ _ := (hb2.block z lz).trans bC.out
  have hbD := hb.out.trans (hb2.mono hb.out.size)
  have hS := h.out.below hbD
  have hF := FrD.of_below hbD h.out.hBw
  clear e0 e1 e2 e3 e4 lz ha hask bC hb hb2 h
  have e0 := bD.cell (i := 0) rfl
  have e1 := bD.cell (i := 1) rfl
  have e2 := bD.cell (i := 2) rfl
  have e3 := bD.cell (i := 3) rfl
  have e4 := bD.cell (i := 4) rfl
  have lz := bD.lt
  replace bD := Lib.hid bD
  replace hbD := Lib.hid hbD
  have hc := Mark_any hS k hk false true
  unfold ptrV at hc
  replace hS := Lib.hid hS
  replace hF := Lib.hid hF
  go_wp2_with fail
  refine hc.mono ?_
  rintro e w3 ⟨rfl, q1, q2⟩
  have hfin : Hid (StAt w3 B sb a (pot + 10) _ n ∧ FrD B w w3) := Lib.hid ⟨q1.mono (by omega), hF.out.trans (hS.out.frD q2)⟩
  clear hc q1 q2 e0 e1 e2 e3 e4 lz hS hF
  go_wp2
  go_ret
  exact ⟨rfl, hfin.out⟩
set_option maxRecDepth 100000 in
set_option maxHeartbeats 8000000 in
theorem does_22 (h : StAt w B sb a pot t n) (x : Int) (k s : ByteArray) (q : Int) (A : Option Addr) (m c : Nat) (hx : In64 x) (hn : In64 q) (hK : askI x = 2) (hk : k.size ≤ 200) (hs : s.size ≤ 5000) (h2 : ¬ q.tmod 2 = 0) (h3 : ¬ q.tmod 3 = 0) :
    Calls Tryz.prog 13 #[ptrV sb, ptrV a.l, .agg #[.int .i64 x, .string k, .string s, .int .i64 q, .slice A m c]] w fun e w' => e = .returned (.int .i64 (t.markV k true false).1) ∧ StAt w' B sb a (pot + 10) (t.markV k true false).2 n ∧ FrD B w w' := by
  obtain ⟨z, hz⟩ : ∃ z, w.heap.size = z := ⟨_, rfl⟩
  have bC : Blk (w.alloc (.cells #[.int .i64 x, .string k, .string s, .int .i64 q, .slice A m c] 39)) z [.int .i64 x, .string k, .string s, .int .i64 q, .slice A m c] 39 := by rw [← hz]; exact Blk.new w _ _
  have hb : Below w.heap.size w (w.alloc (.cells #[.int .i64 x, .string k, .string s, .int .i64 q, .slice A m c] 39)) := Below.of_alloc w _
  have hask := fun W => ask_any x k s q (.slice A m c) ⟨A, m, c, rfl⟩ hx W
  rw [hK] at hask
  unfold In64 at hn
  clear hx hK
  replace h := Lib.hid h
  replace hb := Lib.hid hb
  replace bC := Lib.hid bC
  replace hz := Lib.hid hz
  have h2b : (q.tmod 2 != 0) = true := bne_iff_ne.2 h2
  clear h2
  have h3b : (q.tmod 3 == 0) = false := beq_eq_false_iff_ne.2 h3
  clear h3
  unfold ptrV
  go_enter Tryz.func13, Tryz.ntmps13
  go_upto_region 1 with fail
  try rw [hz.out]
  generalize (w.alloc (.cells #[.int .i64 x, .string k, .string s, .int .i64 q, .slice A m c] 39)) = w1 at bC hb ⊢
  have e0 := bC.out.cell (i := 0) rfl
  have e1 := bC.out.cell (i := 1) rfl
  have e2 := bC.out.cell (i := 2) rfl
  have e3 := bC.out.cell (i := 3) rfl
  have e4 := bC.out.cell (i := 4) rfl
  have lz := bC.out.lt
  have ha := hask w1
  go_wp2_with fail
  refine ha.mono ?_
  rintro e w2 ⟨rfl, hb2⟩
  have bD : Blk w2 z _ _ := (hb2.block z lz).trans bC.out
  have hbD := hb.out.trans (hb2.mono hb.out.size)
  have hS := h.out.below hbD
  have hF := FrD.of_below hbD h.out.hBw
  clear e0 e1 e2 e3 e4 lz ha hask bC hb hb2 h
  have e0 := bD.cell (i := 0) rfl
  have e1 := bD.cell (i := 1) rfl
  have e2 := bD.cell (i := 2) rfl
  have e3 := bD.cell (i := 3) rfl
  have e4 := bD.cell (i := 4) rfl
  have lz := bD.lt
  replace bD := Lib.hid bD
  replace hbD := Lib.hid hbD
  have hc := Mark_any hS k hk true false
  unfold ptrV at hc
  replace hS := Lib.hid hS
  replace hF := Lib.hid hF
  go_wp2_with fail
  refine hc.mono ?_
  rintro e w3 ⟨rfl, q1, q2⟩
  have hfin : Hid (StAt w3 B sb a (pot + 10) _ n ∧ FrD B w w3) := Lib.hid ⟨q1.mono (by omega), hF.out.trans (hS.out.frD q2)⟩
  clear hc q1 q2 e0 e1 e2 e3 e4 lz hS hF
  go_wp2
  go_ret
  exact ⟨rfl, hfin.out⟩
set_option maxRecDepth 100000 in
set_option maxHeartbeats 8000000 in
theorem does_23 (h : StAt w B sb a pot t n) (x : Int) (k s : ByteArray) (q : Int) (A : Option Addr) (m c : Nat) (hx : In64 x) (hn : In64 q) (hK : askI x = 2) (hk : k.size ≤ 200) (hs : s.size ≤ 5000) (h2 : ¬ q.tmod 2 = 0) (h3 : q.tmod 3 = 0) :
    Calls Tryz.prog 13 #[ptrV sb, ptrV a.l, .agg #[.int .i64 x, .string k, .string s, .int .i64 q, .slice A m c]] w fun e w' => e = .returned (.int .i64 (t.markV k true true).1) ∧ StAt w' B sb a (pot + 10) (t.markV k true true).2 n ∧ FrD B w w' := by
  obtain ⟨z, hz⟩ : ∃ z, w.heap.size = z := ⟨_, rfl⟩
  have bC : Blk (w.alloc (.cells #[.int .i64 x, .string k, .string s, .int .i64 q, .slice A m c] 39)) z [.int .i64 x, .string k, .string s, .int .i64 q, .slice A m c] 39 := by rw [← hz]; exact Blk.new w _ _
  have hb : Below w.heap.size w (w.alloc (.cells #[.int .i64 x, .string k, .string s, .int .i64 q, .slice A m c] 39)) := Below.of_alloc w _
  have hask := fun W => ask_any x k s q (.slice A m c) ⟨A, m, c, rfl⟩ hx W
  rw [hK] at hask
  unfold In64 at hn
  clear hx hK
  replace h := Lib.hid h
  replace hb := Lib.hid hb
  replace bC := Lib.hid bC
  replace hz := Lib.hid hz
  have h2b : (q.tmod 2 != 0) = true := bne_iff_ne.2 h2
  clear h2
  unfold ptrV
  go_enter Tryz.func13, Tryz.ntmps13
  go_upto_region 1 with fail
  try rw [hz.out]
  generalize (w.alloc (.cells #[.int .i64 x, .string k, .string s, .int .i64 q, .slice A m c] 39)) = w1 at bC hb ⊢
  have e0 := bC.out.cell (i := 0) rfl
  have e1 := bC.out.cell (i := 1) rfl
  have e2 := bC.out.cell (i := 2) rfl
  have e3 := bC.out.cell (i := 3) rfl
  have e4 := bC.out.cell (i := 4) rfl
  have lz := bC.out.lt
  have ha := hask w1
  go_wp2_with fail
  refine ha.mono ?_
  rintro e w2 ⟨rfl, hb2⟩
  have bD : Blk w2 z _ _ := (hb2.block z lz).trans bC.out
  have hbD := hb.out.trans (hb2.mono hb.out.size)
  have hS := h.out.below hbD
  have hF := FrD.of_below hbD h.out.hBw
  clear e0 e1 e2 e3 e4 lz ha hask bC hb hb2 h
  have e0 := bD.cell (i := 0) rfl
  have e1 := bD.cell (i := 1) rfl
  have e2 := bD.cell (i := 2) rfl
  have e3 := bD.cell (i := 3) rfl
  have e4 := bD.cell (i := 4) rfl
  have lz := bD.lt
  replace bD := Lib.hid bD
  replace hbD := Lib.hid hbD
  have hc := Mark_any hS k hk true true
  unfold ptrV at hc
  replace hS := Lib.hid hS
  replace hF := Lib.hid hF
  go_wp2_with fail
  refine hc.mono ?_
  rintro e w3 ⟨rfl, q1, q2⟩
  have hfin : Hid (StAt w3 B sb a (pot + 10) _ n ∧ FrD B w w3) := Lib.hid ⟨q1.mono (by omega), hF.out.trans (hS.out.frD q2)⟩
  clear hc q1 q2 e0 e1 e2 e3 e4 lz hS hF
  go_wp2
  go_ret
  exact ⟨rfl, hfin.out⟩
theorem sub_length {α : Type} [DecidableEq α] : ∀ {l m : List α}, l.Nodup → (∀ x ∈ l, x ∈ m) → l.length ≤ m.length
  | [], _, _, _ => Nat.zero_le _
  | x :: l, m, h, hs => by
    have hx := hs x (List.mem_cons_self ..)
    have h2 := List.nodup_cons.1 h
    have := sub_length (m := m.erase x) h2.2 (fun y hy => (List.mem_erase_of_ne (fun e => h2.1 (by rw [← e]; exact hy))).2 (hs y (List.mem_cons_of_mem _ hy)))
    rw [List.length_erase_of_mem hx] at this
    have := List.length_pos_of_mem hx
    simp only [List.length_cons]; omega
theorem bytesOf_inj {a b : ByteArray} (h : bytesOf a = bytesOf b) : a = b := by
  cases a; cases b
  unfold bytesOf at h
  rw [ByteArray.mk.injEq]
  exact Array.toList_inj.1 h
theorem KeysOf.nodup {α : Type} {f : ByteArray → Option α} {ns : List ByteArray} (h : KeysOf f ns) : ns.Nodup := by
  obtain ⟨es, h1, _, rfl⟩ := h
  unfold names keysL
  have hp := List.mergeSort_perm (es.map fun p => bytesOf p.1) (fun x y => decide (x ≤ y))
  refine ((hp.map fun l : List UInt8 => (⟨l.toArray⟩ : ByteArray)).nodup_iff).2 ?_
  rw [List.map_map]
  refine List.pairwise_map.2 (h1.imp fun hne e => hne ?_)
  exact bytesOf_inj (congrArg bytesOf e)
theorem KeysOf.unique {α : Type} {f : ByteArray → Option α} {ns ns' : List ByteArray} (h : KeysOf f ns) (k : KeysOf f ns') : ns = ns' := by
  obtain ⟨es, h1, h2, rfl⟩ := h
  obtain ⟨es', k1, k2, rfl⟩ := k
  have nd : ∀ {M : Es α}, M.Pairwise (fun p q => p.1 ≠ q.1) → M.Nodup := fun hM => hM.imp fun h e => h (by rw [e])
  have hm : ∀ {M : Es α}, M.Pairwise (fun p q => p.1 ≠ q.1) → ∀ p : ByteArray × α, p ∈ M ↔ look M p.1 = some p.2 := fun hM p => ⟨fun hp => look_of_mem hM hp, fun hp => look_mem hp⟩
  have hp : es.Pairwise (fun p q => p.1 ≠ q.1) := h1
  have hq := nd h1
  have hr := nd k1
  have hpm : ∀ p : ByteArray × α, p ∈ es ↔ p ∈ es' := fun p => by rw [hm h1, hm k1, h2, k2]
  have hperm : (es.map fun p => bytesOf p.1).Perm (es'.map fun p => bytesOf p.1) := by
    classical
    exact ((List.perm_ext_iff_of_nodup hq hr).2 hpm).map _
  unfold names
  rw [← keysL_perm hperm]
  rfl
theorem five_of {ns : List ByteArray} (h : ns.Nodup) (hm : ∀ k ∈ ns, trapB k = true) : ns.length ≤ 5 := by
  have hsub : ∀ k ∈ ns, k ∈ ([⟨#[69, 88, 73, 84]⟩, ⟨#[72, 85, 80]⟩, ⟨#[73, 78, 84]⟩, ⟨#[84, 69, 82, 77]⟩, ⟨#[85, 83, 82, 49]⟩] : List ByteArray) := fun k hk => by
    have := hm k hk
    unfold trapB at this
    simp only [Bool.or_eq_true, decide_eq_true_eq] at this
    simp only [List.mem_cons]
    rcases this with (((h | h) | h) | h) | h
    · exact .inl h
    · exact .inr (.inl h)
    · exact .inr (.inr (.inl h))
    · exact .inr (.inr (.inr (.inl h)))
    · exact .inr (.inr (.inr (.inr (.inl h))))
  exact sub_length (m := [⟨#[69, 88, 73, 84]⟩, ⟨#[72, 85, 80]⟩, ⟨#[73, 78, 84]⟩, ⟨#[84, 69, 82, 77]⟩, ⟨#[85, 83, 82, 49]⟩]) h hsub
theorem traps_five {s : Sta} (htr : TrapK s) {ns : List ByteArray} (h : KeysOf s.t ns) : ns.length ≤ 5 :=
  five_of h.nodup fun k hk => by
    obtain ⟨x, hx⟩ := h.mem hk
    exact htr.1 k x hx
set_option maxRecDepth 100000 in
set_option maxHeartbeats 8000000 in
theorem does_9 (h : StAt w B sb a pot t n) (x : Int) (k s : ByteArray) (q : Int) (A : Option Addr) (m c : Nat) (hx : In64 x) (hn : In64 q) (hK : askI x = 9) (hk : k.size ≤ 200) (hs : s.size ≤ 5000) (htr : TrapK t.cur) (hp : pot ≤ 90000) :
    Calls Tryz.prog 13 #[ptrV sb, ptrV a.l, .agg #[.int .i64 x, .string k, .string s, .int .i64 q, .slice A m c]] w fun e w' => ∃ ns, KeysOf t.cur.t ns ∧ e = .returned (.int .i64 (enterL ns t).1) ∧ StAt w' B sb a (pot + 10) (enterL ns t).2 n ∧ FrD B w w' := by
  obtain ⟨z, hz⟩ : ∃ z, w.heap.size = z := ⟨_, rfl⟩
  have bC : Blk (w.alloc (.cells #[.int .i64 x, .string k, .string s, .int .i64 q, .slice A m c] 39)) z [.int .i64 x, .string k, .string s, .int .i64 q, .slice A m c] 39 := by rw [← hz]; exact Blk.new w _ _
  have hb : Below w.heap.size w (w.alloc (.cells #[.int .i64 x, .string k, .string s, .int .i64 q, .slice A m c] 39)) := Below.of_alloc w _
  have hask := fun W => ask_any x k s q (.slice A m c) ⟨A, m, c, rfl⟩ hx W
  rw [hK] at hask
  unfold In64 at hn
  clear hx hK
  replace h := Lib.hid h
  replace hb := Lib.hid hb
  replace bC := Lib.hid bC
  replace hz := Lib.hid hz
  unfold ptrV
  go_enter Tryz.func13, Tryz.ntmps13
  go_upto_region 1 with fail
  try rw [hz.out]
  generalize (w.alloc (.cells #[.int .i64 x, .string k, .string s, .int .i64 q, .slice A m c] 39)) = w1 at bC hb ⊢
  have e0 := bC.out.cell (i := 0) rfl
  have e1 := bC.out.cell (i := 1) rfl
  have e2 := bC.out.cell (i := 2) rfl
  have e3 := bC.out.cell (i := 3) rfl
  have e4 := bC.out.cell (i := 4) rfl
  have lz := bC.out.lt
  have ha := hask w1
  go_wp2_with fail
  refine ha.mono ?_
  rintro e w2 ⟨rfl, hb2⟩
  have bD : Blk w2 z _ _ := (hb2.block z lz).trans bC.out
  have hbD := hb.out.trans (hb2.mono hb.out.size)
  have hS := h.out.below hbD
  have hF := FrD.of_below hbD h.out.hBw
  clear e0 e1 e2 e3 e4 lz ha hask bC hb hb2 h
  have e0 := bD.cell (i := 0) rfl
  have e1 := bD.cell (i := 1) rfl
  have e2 := bD.cell (i := 2) rfl
  have e3 := bD.cell (i := 3) rfl
  have e4 := bD.cell (i := 4) rfl
  have lz := bD.lt
  replace bD := Lib.hid bD
  replace hbD := Lib.hid hbD
  obtain ⟨ns, hkeys, hc⟩ := Enter_any hS (by omega)
  have h5 : ns.length ≤ 5 := traps_five htr hkeys
  replace hkeys := Lib.hid hkeys
  unfold ptrV at hc
  replace hS := Lib.hid hS
  replace hF := Lib.hid hF
  go_wp2_with fail
  refine hc.mono ?_
  rintro e w3 ⟨rfl, q1, q2⟩
  have hfin : Hid (KeysOf t.cur.t ns ∧ StAt w3 B sb a (pot + 10) _ n ∧ FrD B w w3) := Lib.hid ⟨hkeys.out, q1.mono (by omega), hF.out.trans (hS.out.frD q2)⟩
  clear hc q1 q2 e0 e1 e2 e3 e4 lz hS hF hkeys
  go_wp2
  go_ret
  exact ⟨ns, hfin.out.1, rfl, hfin.out.2⟩
set_option maxRecDepth 100000 in
set_option maxHeartbeats 8000000 in
theorem does_12n (h : StAt w B sb a pot t n) (x : Int) (k s : ByteArray) (q : Int) (A : Option Addr) (m c : Nat) (hx : In64 x) (hn : In64 q) (hK : askI x = 12) (hk : k.size ≤ 200) (hs : s.size ≤ 5000) {l : List ByteArray} (htx : Txs w A m c l) (hm : m ≤ 1100) (hl : ∀ s ∈ l, s.size ≤ 1000000) (hno : 1000 < m ∨ greatL l = true) :
    Calls Tryz.prog 13 #[ptrV sb, ptrV a.l, .agg #[.int .i64 x, .string k, .string s, .int .i64 q, .slice A m c]] w fun e w' => e = .returned (.int .i64 (Tg.setArgsE m l)) ∧ StAt w' B sb a (pot + 10) t n ∧ FrD B w w' := by
  obtain ⟨z, hz⟩ : ∃ z, w.heap.size = z := ⟨_, rfl⟩
  have bC : Blk (w.alloc (.cells #[.int .i64 x, .string k, .string s, .int .i64 q, .slice A m c] 39)) z [.int .i64 x, .string k, .string s, .int .i64 q, .slice A m c] 39 := by rw [← hz]; exact Blk.new w _ _
  have hb : Below w.heap.size w (w.alloc (.cells #[.int .i64 x, .string k, .string s, .int .i64 q, .slice A m c] 39)) := Below.of_alloc w _
  have hask := fun W => ask_any x k s q (.slice A m c) ⟨A, m, c, rfl⟩ hx W
  rw [hK] at hask
  unfold In64 at hn
  clear hx hK
  replace h := Lib.hid h
  replace hb := Lib.hid hb
  replace bC := Lib.hid bC
  replace hz := Lib.hid hz
  replace htx := Lib.hid htx
  unfold ptrV
  go_enter Tryz.func13, Tryz.ntmps13
  go_upto_region 1 with fail
  try rw [hz.out]
  generalize (w.alloc (.cells #[.int .i64 x, .string k, .string s, .int .i64 q, .slice A m c] 39)) = w1 at bC hb ⊢
  have e0 := bC.out.cell (i := 0) rfl
  have e1 := bC.out.cell (i := 1) rfl
  have e2 := bC.out.cell (i := 2) rfl
  have e3 := bC.out.cell (i := 3) rfl
  have e4 := bC.out.cell (i := 4) rfl
  have lz := bC.out.lt
  have ha := hask w1
  go_wp2_with fail
  refine ha.mono ?_
  rintro e w2 ⟨rfl, hb2⟩
  have bD : Blk w2 z _ _ := (hb2.block z lz).trans bC.out
  have hbD := hb.out.trans (hb2.mono hb.out.size)
  have hS := h.out.below hbD
  have hF := FrD.of_below hbD h.out.hBw
  clear e0 e1 e2 e3 e4 lz ha hask bC hb hb2 h
  have e0 := bD.cell (i := 0) rfl
  have e1 := bD.cell (i := 1) rfl
  have e2 := bD.cell (i := 2) rfl
  have e3 := bD.cell (i := 3) rfl
  have e4 := bD.cell (i := 4) rfl
  have lz := bD.lt
  replace bD := Lib.hid bD
  replace hbD := Lib.hid hbD
  have hc := SetArgs_no hS (htx.out.below hbD.out) (by omega) hl hno
  unfold ptrV at hc
  have hfin : Hid (StAt w2 B sb a (pot + 10) t n ∧ FrD B w w2) := Lib.hid ⟨hS.mono (by omega), hF⟩
  clear hS hF htx
  go_wp2_with fail
  refine hc.mono ?_
  rintro e w' ⟨rfl, hw⟩
  obtain rfl := hw.symm
  clear hc hw e0 e1 e2 e3 e4 lz
  go_wp2
  go_ret
  exact ⟨rfl, hfin.out⟩
set_option maxRecDepth 100000 in
set_option maxHeartbeats 8000000 in
theorem does_12 (h : StAt w B sb a pot t n) (x : Int) (k s : ByteArray) (q : Int) (A : Option Addr) (m c : Nat) (hx : In64 x) (hn : In64 q) (hK : askI x = 12) (hk : k.size ≤ 200) (hs : s.size ≤ 5000) {l : List ByteArray} (htx : Txs w A m c l) (hm : ¬ 1000 < m) (hl : ∀ s ∈ l, s.size ≤ 1000000) (hgr : greatL l = false) :
    Calls Tryz.prog 13 #[ptrV sb, ptrV a.l, .agg #[.int .i64 x, .string k, .string s, .int .i64 q, .slice A m c]] w fun e w' => ∃ A' c', e = .returned (.int .i64 (t.setg ⟨A', m, c', 1, 0, l⟩).1) ∧ StAt w' B sb a (pot + 10) (t.setg ⟨A', m, c', 1, 0, l⟩).2 n ∧ FrD B w w' := by
  obtain ⟨z, hz⟩ : ∃ z, w.heap.size = z := ⟨_, rfl⟩
  have bC : Blk (w.alloc (.cells #[.int .i64 x, .string k, .string s, .int .i64 q, .slice A m c] 39)) z [.int .i64 x, .string k, .string s, .int .i64 q, .slice A m c] 39 := by rw [← hz]; exact Blk.new w _ _
  have hb : Below w.heap.size w (w.alloc (.cells #[.int .i64 x, .string k, .string s, .int .i64 q, .slice A m c] 39)) := Below.of_alloc w _
  have hask := fun W => ask_any x k s q (.slice A m c) ⟨A, m, c, rfl⟩ hx W
  rw [hK] at hask
  unfold In64 at hn
  clear hx hK
  replace h := Lib.hid h
  replace hb := Lib.hid hb
  replace bC := Lib.hid bC
  replace hz := Lib.hid hz
  replace htx := Lib.hid htx
  unfold ptrV
  go_enter Tryz.func13, Tryz.ntmps13
  go_upto_region 1 with fail
  try rw [hz.out]
  generalize (w.alloc (.cells #[.int .i64 x, .string k, .string s, .int .i64 q, .slice A m c] 39)) = w1 at bC hb ⊢
  have e0 := bC.out.cell (i := 0) rfl
  have e1 := bC.out.cell (i := 1) rfl
  have e2 := bC.out.cell (i := 2) rfl
  have e3 := bC.out.cell (i := 3) rfl
  have e4 := bC.out.cell (i := 4) rfl
  have lz := bC.out.lt
  have ha := hask w1
  go_wp2_with fail
  refine ha.mono ?_
  rintro e w2 ⟨rfl, hb2⟩
  have bD : Blk w2 z _ _ := (hb2.block z lz).trans bC.out
  have hbD := hb.out.trans (hb2.mono hb.out.size)
  have hS := h.out.below hbD
  have hF := FrD.of_below hbD h.out.hBw
  clear e0 e1 e2 e3 e4 lz ha hask bC hb hb2 h
  have e0 := bD.cell (i := 0) rfl
  have e1 := bD.cell (i := 1) rfl
  have e2 := bD.cell (i := 2) rfl
  have e3 := bD.cell (i := 3) rfl
  have e4 := bD.cell (i := 4) rfl
  have lz := bD.lt
  replace bD := Lib.hid bD
  replace hbD := Lib.hid hbD
  have hc := SetArgs_ok hS (htx.out.below hbD.out) hm hl hgr
  unfold ptrV at hc
  replace hS := Lib.hid hS
  replace hF := Lib.hid hF
  clear htx
  go_wp2_with fail
  refine hc.mono ?_
  rintro e w3 ⟨A', c', rfl, q1, q2, _⟩
  have hfin : Hid (StAt w3 B sb a (pot + 10) _ n ∧ FrD B w w3) := Lib.hid ⟨q1.mono (by omega), hF.out.trans (hS.out.frD q2)⟩
  clear hc q1 q2 e0 e1 e2 e3 e4 lz hS hF
  go_wp2
  go_ret
  exact ⟨A', c', rfl, hfin.out⟩
set_option maxRecDepth 100000 in
set_option maxHeartbeats 8000000 in
theorem does_13n (h : StAt w B sb a pot t n) (x : Int) (k s : ByteArray) (q : Int) (A : Option Addr) (m c : Nat) (hx : In64 x) (hn : In64 q) (hK : askI x = 13) (hk : k.size ≤ 200) (hs : s.size ≤ 5000) (hq : q < 0 ∨ (t.cur.g.n : Int) < q) :
    Calls Tryz.prog 13 #[ptrV sb, ptrV a.l, .agg #[.int .i64 x, .string k, .string s, .int .i64 q, .slice A m c]] w fun e w' => e = .returned (.int .i64 1) ∧ StAt w' B sb a (pot + 10) t n ∧ FrD B w w' := by
  obtain ⟨z, hz⟩ : ∃ z, w.heap.size = z := ⟨_, rfl⟩
  have bC : Blk (w.alloc (.cells #[.int .i64 x, .string k, .string s, .int .i64 q, .slice A m c] 39)) z [.int .i64 x, .string k, .string s, .int .i64 q, .slice A m c] 39 := by rw [← hz]; exact Blk.new w _ _
  have hb : Below w.heap.size w (w.alloc (.cells #[.int .i64 x, .string k, .string s, .int .i64 q, .slice A m c] 39)) := Below.of_alloc w _
  have hask := fun W => ask_any x k s q (.slice A m c) ⟨A, m, c, rfl⟩ hx W
  rw [hK] at hask
  unfold In64 at hn
  clear hx hK
  replace h := Lib.hid h
  replace hb := Lib.hid hb
  replace bC := Lib.hid bC
  replace hz := Lib.hid hz
  unfold ptrV
  go_enter Tryz.func13, Tryz.ntmps13
  go_upto_region 1 with fail
  try rw [hz.out]
  generalize (w.alloc (.cells #[.int .i64 x, .string k, .string s, .int .i64 q, .slice A m c] 39)) = w1 at bC hb ⊢
  have e0 := bC.out.cell (i := 0) rfl
  have e1 := bC.out.cell (i := 1) rfl
  have e2 := bC.out.cell (i := 2) rfl
  have e3 := bC.out.cell (i := 3) rfl
  have e4 := bC.out.cell (i := 4) rfl
  have lz := bC.out.lt
  have ha := hask w1
  go_wp2_with fail
  refine ha.mono ?_
  rintro e w2 ⟨rfl, hb2⟩
  have bD : Blk w2 z _ _ := (hb2.block z lz).trans bC.out
  have hbD := hb.out.trans (hb2.mono hb.out.size)
  have hS := h.out.below hbD
  have hF := FrD.of_below hbD h.out.hBw
  clear e0 e1 e2 e3 e4 lz ha hask bC hb hb2 h
  have e0 := bD.cell (i := 0) rfl
  have e1 := bD.cell (i := 1) rfl
  have e2 := bD.cell (i := 2) rfl
  have e3 := bD.cell (i := 3) rfl
  have e4 := bD.cell (i := 4) rfl
  have lz := bD.lt
  replace bD := Lib.hid bD
  replace hbD := Lib.hid hbD
  have hc := Shift_no hS q hq
  unfold ptrV at hc
  replace hS := Lib.hid hS
  replace hF := Lib.hid hF
  clear hq
  go_wp2_with fail
  refine hc.mono ?_
  rintro e w3 ⟨rfl, q1⟩
  have hfin : Hid (StAt w3 B sb a (pot + 10) t n ∧ FrD B w w3) := Lib.hid ⟨(hS.out.below q1).mono (by omega), hF.out.trans (FrD.of_below q1 hS.out.hBw)⟩
  clear hc q1 e0 e1 e2 e3 e4 lz hS hF
  go_wp2
  go_ret
  exact ⟨rfl, hfin.out⟩
set_option maxRecDepth 100000 in
set_option maxHeartbeats 8000000 in
theorem does_13 (h : StAt w B sb a pot t n) (x : Int) (k s : ByteArray) (q : Int) (A : Option Addr) (m c : Nat) (hx : In64 x) (hn : In64 q) (hK : askI x = 13) (hk : k.size ≤ 200) (hs : s.size ≤ 5000) (hq1 : ¬ q < 0) (hq2 : ¬ (t.cur.g.n : Int) < q) :
    Calls Tryz.prog 13 #[ptrV sb, ptrV a.l, .agg #[.int .i64 x, .string k, .string s, .int .i64 q, .slice A m c]] w fun e w' => ∃ A' c', e = .returned (.int .i64 (t.setg ⟨A', t.cur.g.n - q.toNat, c', t.cur.g.a, t.cur.g.i, t.cur.g.l.drop q.toNat⟩).1) ∧ StAt w' B sb a (pot + 10) (t.setg ⟨A', t.cur.g.n - q.toNat, c', t.cur.g.a, t.cur.g.i, t.cur.g.l.drop q.toNat⟩).2 n ∧ FrD B w w' := by
  obtain ⟨z, hz⟩ : ∃ z, w.heap.size = z := ⟨_, rfl⟩
  have bC : Blk (w.alloc (.cells #[.int .i64 x, .string k, .string s, .int .i64 q, .slice A m c] 39)) z [.int .i64 x, .string k, .string s, .int .i64 q, .slice A m c] 39 := by rw [← hz]; exact Blk.new w _ _
  have hb : Below w.heap.size w (w.alloc (.cells #[.int .i64 x, .string k, .string s, .int .i64 q, .slice A m c] 39)) := Below.of_alloc w _
  have hask := fun W => ask_any x k s q (.slice A m c) ⟨A, m, c, rfl⟩ hx W
  rw [hK] at hask
  unfold In64 at hn
  clear hx hK
  replace h := Lib.hid h
  replace hb := Lib.hid hb
  replace bC := Lib.hid bC
  replace hz := Lib.hid hz
  replace hq1 := Lib.hid hq1
  replace hq2 := Lib.hid hq2
  unfold ptrV
  go_enter Tryz.func13, Tryz.ntmps13
  go_upto_region 1 with fail
  try rw [hz.out]
  generalize (w.alloc (.cells #[.int .i64 x, .string k, .string s, .int .i64 q, .slice A m c] 39)) = w1 at bC hb ⊢
  have e0 := bC.out.cell (i := 0) rfl
  have e1 := bC.out.cell (i := 1) rfl
  have e2 := bC.out.cell (i := 2) rfl
  have e3 := bC.out.cell (i := 3) rfl
  have e4 := bC.out.cell (i := 4) rfl
  have lz := bC.out.lt
  have ha := hask w1
  go_wp2_with fail
  refine ha.mono ?_
  rintro e w2 ⟨rfl, hb2⟩
  have bD : Blk w2 z _ _ := (hb2.block z lz).trans bC.out
  have hbD := hb.out.trans (hb2.mono hb.out.size)
  have hS := h.out.below hbD
  have hF := FrD.of_below hbD h.out.hBw
  clear e0 e1 e2 e3 e4 lz ha hask bC hb hb2 h
  have e0 := bD.cell (i := 0) rfl
  have e1 := bD.cell (i := 1) rfl
  have e2 := bD.cell (i := 2) rfl
  have e3 := bD.cell (i := 3) rfl
  have e4 := bD.cell (i := 4) rfl
  have lz := bD.lt
  replace bD := Lib.hid bD
  replace hbD := Lib.hid hbD
  have hc := Shift_ok hS q (by have := hq1.out; omega) (by have := hq2.out; omega)
  unfold ptrV at hc
  replace hS := Lib.hid hS
  replace hF := Lib.hid hF
  clear hq1 hq2
  go_wp2_with fail
  refine hc.mono ?_
  rintro e w3 ⟨A', c', rfl, q1, q2⟩
  have hfin : Hid (StAt w3 B sb a (pot + 10) _ n ∧ FrD B w w3) := Lib.hid ⟨q1.mono (by omega), hF.out.trans (hS.out.frD q2)⟩
  clear hc q1 q2 e0 e1 e2 e3 e4 lz hS hF
  go_wp2
  go_ret
  exact ⟨A', c', rfl, hfin.out⟩
set_option maxRecDepth 100000 in
set_option maxHeartbeats 8000000 in
theorem does_14n (h : StAt w B sb a pot t n) (x : Int) (k s : ByteArray) (q : Int) (A : Option Addr) (m c : Nat) (hx : In64 x) (hn : In64 q) (hK : askI x = 14) (hk : k.size ≤ 200) (hs : s.size ≤ 5000) (hq : q < 0) :
    Calls Tryz.prog 13 #[ptrV sb, ptrV a.l, .agg #[.int .i64 x, .string k, .string s, .int .i64 q, .slice A m c]] w fun e w' => e = .returned (.int .i64 1) ∧ StAt w' B sb a (pot + 10) t n ∧ FrD B w w' := by
  obtain ⟨z, hz⟩ : ∃ z, w.heap.size = z := ⟨_, rfl⟩
  have bC : Blk (w.alloc (.cells #[.int .i64 x, .string k, .string s, .int .i64 q, .slice A m c] 39)) z [.int .i64 x, .string k, .string s, .int .i64 q, .slice A m c] 39 := by rw [← hz]; exact Blk.new w _ _
  have hb : Below w.heap.size w (w.alloc (.cells #[.int .i64 x, .string k, .string s, .int .i64 q, .slice A m c] 39)) := Below.of_alloc w _
  have hask := fun W => ask_any x k s q (.slice A m c) ⟨A, m, c, rfl⟩ hx W
  rw [hK] at hask
  unfold In64 at hn
  clear hx hK
  replace h := Lib.hid h
  replace hb := Lib.hid hb
  replace bC := Lib.hid bC
  replace hz := Lib.hid hz
  unfold ptrV
  go_enter Tryz.func13, Tryz.ntmps13
  go_upto_region 1 with fail
  try rw [hz.out]
  generalize (w.alloc (.cells #[.int .i64 x, .string k, .string s, .int .i64 q, .slice A m c] 39)) = w1 at bC hb ⊢
  have e0 := bC.out.cell (i := 0) rfl
  have e1 := bC.out.cell (i := 1) rfl
  have e2 := bC.out.cell (i := 2) rfl
  have e3 := bC.out.cell (i := 3) rfl
  have e4 := bC.out.cell (i := 4) rfl
  have lz := bC.out.lt
  have ha := hask w1
  go_wp2_with fail
  refine ha.mono ?_
  rintro e w2 ⟨rfl, hb2⟩
  have bD : Blk w2 z _ _ := (hb2.block z lz).trans bC.out
  have hbD := hb.out.trans (hb2.mono hb.out.size)
  have hS := h.out.below hbD
  have hF := FrD.of_below hbD h.out.hBw
  clear e0 e1 e2 e3 e4 lz ha hask bC hb hb2 h
  have e0 := bD.cell (i := 0) rfl
  have e1 := bD.cell (i := 1) rfl
  have e2 := bD.cell (i := 2) rfl
  have e3 := bD.cell (i := 3) rfl
  have e4 := bD.cell (i := 4) rfl
  have lz := bD.lt
  replace bD := Lib.hid bD
  replace hbD := Lib.hid hbD
  have hc := SetCursor_no hS q (m : Int) (by omega)
  unfold ptrV at hc
  have hfin : Hid (StAt w2 B sb a (pot + 10) t n ∧ FrD B w w2) := Lib.hid ⟨hS.mono (by omega), hF⟩
  clear hS hF hq
  go_wp2_with fail
  refine hc.mono ?_
  rintro e w' ⟨rfl, hw⟩
  obtain rfl := hw.symm
  clear hc hw e0 e1 e2 e3 e4 lz
  go_wp2
  go_ret
  exact ⟨rfl, hfin.out⟩
set_option maxRecDepth 100000 in
set_option maxHeartbeats 8000000 in
theorem does_14 (h : StAt w B sb a pot t n) (x : Int) (k s : ByteArray) (q : Int) (A : Option Addr) (m c : Nat) (hx : In64 x) (hn : In64 q) (hK : askI x = 14) (hk : k.size ≤ 200) (hs : s.size ≤ 5000) (hq : ¬ q < 0) :
    Calls Tryz.prog 13 #[ptrV sb, ptrV a.l, .agg #[.int .i64 x, .string k, .string s, .int .i64 q, .slice A m c]] w fun e w' => e = .returned (.int .i64 (t.setC q (m : Int)).1) ∧ StAt w' B sb a (pot + 10) (t.setC q (m : Int)).2 n ∧ FrD B w w' := by
  obtain ⟨z, hz⟩ : ∃ z, w.heap.size = z := ⟨_, rfl⟩
  have bC : Blk (w.alloc (.cells #[.int .i64 x, .string k, .string s, .int .i64 q, .slice A m c] 39)) z [.int .i64 x, .string k, .string s, .int .i64 q, .slice A m c] 39 := by rw [← hz]; exact Blk.new w _ _
  have hb : Below w.heap.size w (w.alloc (.cells #[.int .i64 x, .string k, .string s, .int .i64 q, .slice A m c] 39)) := Below.of_alloc w _
  have hask := fun W => ask_any x k s q (.slice A m c) ⟨A, m, c, rfl⟩ hx W
  rw [hK] at hask
  unfold In64 at hn
  clear hx hK
  replace h := Lib.hid h
  replace hb := Lib.hid hb
  replace bC := Lib.hid bC
  replace hz := Lib.hid hz
  replace hq := Lib.hid hq
  unfold ptrV
  go_enter Tryz.func13, Tryz.ntmps13
  go_upto_region 1 with fail
  try rw [hz.out]
  generalize (w.alloc (.cells #[.int .i64 x, .string k, .string s, .int .i64 q, .slice A m c] 39)) = w1 at bC hb ⊢
  have e0 := bC.out.cell (i := 0) rfl
  have e1 := bC.out.cell (i := 1) rfl
  have e2 := bC.out.cell (i := 2) rfl
  have e3 := bC.out.cell (i := 3) rfl
  have e4 := bC.out.cell (i := 4) rfl
  have lz := bC.out.lt
  have ha := hask w1
  go_wp2_with fail
  refine ha.mono ?_
  rintro e w2 ⟨rfl, hb2⟩
  have bD : Blk w2 z _ _ := (hb2.block z lz).trans bC.out
  have hbD := hb.out.trans (hb2.mono hb.out.size)
  have hS := h.out.below hbD
  have hF := FrD.of_below hbD h.out.hBw
  clear e0 e1 e2 e3 e4 lz ha hask bC hb hb2 h
  have e0 := bD.cell (i := 0) rfl
  have e1 := bD.cell (i := 1) rfl
  have e2 := bD.cell (i := 2) rfl
  have e3 := bD.cell (i := 3) rfl
  have e4 := bD.cell (i := 4) rfl
  have lz := bD.lt
  replace bD := Lib.hid bD
  replace hbD := Lib.hid hbD
  have hc := SetCursor_ok hS q (m : Int) (by have := hq.out; omega) (by omega)
  unfold ptrV at hc
  replace hS := Lib.hid hS
  replace hF := Lib.hid hF
  go_wp2_with fail
  refine hc.mono ?_
  rintro e w3 ⟨rfl, q1, q2⟩
  have hfin : Hid (StAt w3 B sb a (pot + 10) _ n ∧ FrD B w w3) := Lib.hid ⟨q1.mono (by omega), hF.out.trans (hS.out.frD q2)⟩
  clear hc q1 q2 e0 e1 e2 e3 e4 lz hS hF
  go_wp2
  go_ret
  exact ⟨rfl, hfin.out⟩
set_option maxRecDepth 100000 in
set_option maxHeartbeats 8000000 in
theorem does_15 (h : StAt w B sb a pot t n) (x : Int) (k s : ByteArray) (q : Int) (A : Option Addr) (m c : Nat) (hx : In64 x) (hn : In64 q) (hK : askI x = 15) (hk : k.size ≤ 200) (hs : s.size ≤ 5000) :
    Calls Tryz.prog 13 #[ptrV sb, ptrV a.l, .agg #[.int .i64 x, .string k, .string s, .int .i64 q, .slice A m c]] w fun e w' => e = .returned (.int .i64 0) ∧ StAt w' B sb a (pot + 10) t (bits .and .i64 q 255) ∧ FrD B w w' := by
  obtain ⟨z, hz⟩ : ∃ z, w.heap.size = z := ⟨_, rfl⟩
  have bC : Blk (w.alloc (.cells #[.int .i64 x, .string k, .string s, .int .i64 q, .slice A m c] 39)) z [.int .i64 x, .string k, .string s, .int .i64 q, .slice A m c] 39 := by rw [← hz]; exact Blk.new w _ _
  have hb : Below w.heap.size w (w.alloc (.cells #[.int .i64 x, .string k, .string s, .int .i64 q, .slice A m c] 39)) := Below.of_alloc w _
  have hask := fun W => ask_any x k s q (.slice A m c) ⟨A, m, c, rfl⟩ hx W
  rw [hK] at hask
  unfold In64 at hn
  clear hx hK
  replace h := Lib.hid h
  replace hb := Lib.hid hb
  replace bC := Lib.hid bC
  replace hz := Lib.hid hz
  unfold ptrV
  go_enter Tryz.func13, Tryz.ntmps13
  go_upto_region 1 with fail
  try rw [hz.out]
  generalize (w.alloc (.cells #[.int .i64 x, .string k, .string s, .int .i64 q, .slice A m c] 39)) = w1 at bC hb ⊢
  have e0 := bC.out.cell (i := 0) rfl
  have e1 := bC.out.cell (i := 1) rfl
  have e2 := bC.out.cell (i := 2) rfl
  have e3 := bC.out.cell (i := 3) rfl
  have e4 := bC.out.cell (i := 4) rfl
  have lz := bC.out.lt
  have ha := hask w1
  go_wp2_with fail
  refine ha.mono ?_
  rintro e w2 ⟨rfl, hb2⟩
  have bD : Blk w2 z _ _ := (hb2.block z lz).trans bC.out
  have hbD := hb.out.trans (hb2.mono hb.out.size)
  have hS := h.out.below hbD
  have hF := FrD.of_below hbD h.out.hBw
  clear e0 e1 e2 e3 e4 lz ha hask bC hb hb2 h
  have e0 := bD.cell (i := 0) rfl
  have e1 := bD.cell (i := 1) rfl
  have e2 := bD.cell (i := 2) rfl
  have e3 := bD.cell (i := 3) rfl
  have e4 := bD.cell (i := 4) rfl
  have lz := bD.lt
  replace bD := Lib.hid bD
  replace hbD := Lib.hid hbD
  have hc := SetStatus_any hS q
  unfold ptrV at hc
  replace hS := Lib.hid hS
  replace hF := Lib.hid hF
  go_wp2_with fail
  refine hc.mono ?_
  rintro e w3 ⟨rfl, q1, q2⟩
  have hfin : Hid (StAt w3 B sb a (pot + 10) t (bits .and .i64 q 255) ∧ FrD B w w3) := Lib.hid ⟨q1.mono (by omega), hF.out.trans (hS.out.frS q2)⟩
  clear hc q1 q2 e0 e1 e2 e3 e4 lz hS hF
  go_wp2
  go_ret
  exact ⟨rfl, hfin.out⟩
set_option maxRecDepth 100000 in
set_option maxHeartbeats 8000000 in
theorem does_16 (h : StAt w B sb a pot t n) (x : Int) (k s : ByteArray) (q : Int) (A : Option Addr) (m c : Nat) (hx : In64 x) (hn : In64 q) (hK : askI x = 16) (hk : k.size ≤ 200) (hs : s.size ≤ 5000) :
    Calls Tryz.prog 13 #[ptrV sb, ptrV a.l, .agg #[.int .i64 x, .string k, .string s, .int .i64 q, .slice A m c]] w fun e w' => e = .returned (.int .i64 t.mark.2.1) ∧ StAt w' B sb a (pot + 10) t.mark.2.2 n ∧ FrD B w w' := by
  obtain ⟨z, hz⟩ : ∃ z, w.heap.size = z := ⟨_, rfl⟩
  have bC : Blk (w.alloc (.cells #[.int .i64 x, .string k, .string s, .int .i64 q, .slice A m c] 39)) z [.int .i64 x, .string k, .string s, .int .i64 q, .slice A m c] 39 := by rw [← hz]; exact Blk.new w _ _
  have hb : Below w.heap.size w (w.alloc (.cells #[.int .i64 x, .string k, .string s, .int .i64 q, .slice A m c] 39)) := Below.of_alloc w _
  have hask := fun W => ask_any x k s q (.slice A m c) ⟨A, m, c, rfl⟩ hx W
  rw [hK] at hask
  unfold In64 at hn
  clear hx hK
  replace h := Lib.hid h
  replace hb := Lib.hid hb
  replace bC := Lib.hid bC
  replace hz := Lib.hid hz
  unfold ptrV
  go_enter Tryz.func13, Tryz.ntmps13
  go_upto_region 1 with fail
  try rw [hz.out]
  generalize (w.alloc (.cells #[.int .i64 x, .string k, .string s, .int .i64 q, .slice A m c] 39)) = w1 at bC hb ⊢
  have e0 := bC.out.cell (i := 0) rfl
  have e1 := bC.out.cell (i := 1) rfl
  have e2 := bC.out.cell (i := 2) rfl
  have e3 := bC.out.cell (i := 3) rfl
  have e4 := bC.out.cell (i := 4) rfl
  have lz := bC.out.lt
  have ha := hask w1
  go_wp2_with fail
  refine ha.mono ?_
  rintro e w2 ⟨rfl, hb2⟩
  have bD : Blk w2 z _ _ := (hb2.block z lz).trans bC.out
  have hbD := hb.out.trans (hb2.mono hb.out.size)
  have hS := h.out.below hbD
  have hF := FrD.of_below hbD h.out.hBw
  clear e0 e1 e2 e3 e4 lz ha hask bC hb hb2 h
  have e0 := bD.cell (i := 0) rfl
  have e1 := bD.cell (i := 1) rfl
  have e2 := bD.cell (i := 2) rfl
  have e3 := bD.cell (i := 3) rfl
  have e4 := bD.cell (i := 4) rfl
  have lz := bD.lt
  replace bD := Lib.hid bD
  replace hbD := Lib.hid hbD
  have hc := th_mark hS.th
  unfold ptrV at hc
  replace hS := Lib.hid hS
  replace hF := Lib.hid hF
  go_wp2_with fail
  refine hc.mono ?_
  rintro e w3 ⟨rfl, q1, q2⟩
  have hfin : Hid (StAt w3 B sb a (pot + 10) _ n ∧ FrD B w w3) := Lib.hid ⟨(hS.out.next q1 q2).mono (by omega), hF.out.trans (hS.out.frD q2)⟩
  clear hc q1 q2 e0 e1 e2 e3 e4 lz hS hF
  go_wp2
  go_ret
  exact ⟨rfl, hfin.out⟩
set_option maxRecDepth 100000 in
set_option maxHeartbeats 8000000 in
theorem does_17 (h : StAt w B sb a pot t n) (x : Int) (k s : ByteArray) (q : Int) (A : Option Addr) (m c : Nat) (hx : In64 x) (hn : In64 q) (hK : askI x = 17) (hk : k.size ≤ 200) (hs : s.size ≤ 5000) :
    Calls Tryz.prog 13 #[ptrV sb, ptrV a.l, .agg #[.int .i64 x, .string k, .string s, .int .i64 q, .slice A m c]] w fun e w' => e = .returned (.int .i64 t.mark.2.1) ∧ StAt w' B sb a (pot + 10) t.mark.2.2 n ∧ FrD B w w' := by
  obtain ⟨z, hz⟩ : ∃ z, w.heap.size = z := ⟨_, rfl⟩
  have bC : Blk (w.alloc (.cells #[.int .i64 x, .string k, .string s, .int .i64 q, .slice A m c] 39)) z [.int .i64 x, .string k, .string s, .int .i64 q, .slice A m c] 39 := by rw [← hz]; exact Blk.new w _ _
  have hb : Below w.heap.size w (w.alloc (.cells #[.int .i64 x, .string k, .string s, .int .i64 q, .slice A m c] 39)) := Below.of_alloc w _
  have hask := fun W => ask_any x k s q (.slice A m c) ⟨A, m, c, rfl⟩ hx W
  rw [hK] at hask
  unfold In64 at hn
  clear hx hK
  replace h := Lib.hid h
  replace hb := Lib.hid hb
  replace bC := Lib.hid bC
  replace hz := Lib.hid hz
  unfold ptrV
  go_enter Tryz.func13, Tryz.ntmps13
  go_upto_region 1 with fail
  try rw [hz.out]
  generalize (w.alloc (.cells #[.int .i64 x, .string k, .string s, .int .i64 q, .slice A m c] 39)) = w1 at bC hb ⊢
  have e0 := bC.out.cell (i := 0) rfl
  have e1 := bC.out.cell (i := 1) rfl
  have e2 := bC.out.cell (i := 2) rfl
  have e3 := bC.out.cell (i := 3) rfl
  have e4 := bC.out.cell (i := 4) rfl
  have lz := bC.out.lt
  have ha := hask w1
  go_wp2_with fail
  refine ha.mono ?_
  rintro e w2 ⟨rfl, hb2⟩
  have bD : Blk w2 z _ _ := (hb2.block z lz).trans bC.out
  have hbD := hb.out.trans (hb2.mono hb.out.size)
  have hS := h.out.below hbD
  have hF := FrD.of_below hbD h.out.hBw
  clear e0 e1 e2 e3 e4 lz ha hask bC hb hb2 h
  have e0 := bD.cell (i := 0) rfl
  have e1 := bD.cell (i := 1) rfl
  have e2 := bD.cell (i := 2) rfl
  have e3 := bD.cell (i := 3) rfl
  have e4 := bD.cell (i := 4) rfl
  have lz := bD.lt
  replace bD := Lib.hid bD
  replace hbD := Lib.hid hbD
  have hc := th_mark hS.th
  unfold ptrV at hc
  replace hS := Lib.hid hS
  replace hF := Lib.hid hF
  go_wp2_with fail
  refine hc.mono ?_
  rintro e w3 ⟨rfl, q1, q2⟩
  have hfin : Hid (StAt w3 B sb a (pot + 10) _ n ∧ FrD B w w3) := Lib.hid ⟨(hS.out.next q1 q2).mono (by omega), hF.out.trans (hS.out.frD q2)⟩
  clear hc q1 q2 e0 e1 e2 e3 e4 lz hS hF
  go_wp2
  go_ret
  exact ⟨rfl, hfin.out⟩
set_option maxRecDepth 100000 in
set_option maxHeartbeats 8000000 in
theorem does_18 (h : StAt w B sb a pot t n) (x : Int) (k s : ByteArray) (q : Int) (A : Option Addr) (m c : Nat) (hx : In64 x) (hn : In64 q) (hK : askI x = 18) (hk : k.size ≤ 200) (hs : s.size ≤ 5000) :
    Calls Tryz.prog 13 #[ptrV sb, ptrV a.l, .agg #[.int .i64 x, .string k, .string s, .int .i64 q, .slice A m c]] w fun e w' => e = .returned (.int .i64 (t.undo).1) ∧ StAt w' B sb a (pot + 10) (t.undo).2 n ∧ FrD B w w' := by
  obtain ⟨z, hz⟩ : ∃ z, w.heap.size = z := ⟨_, rfl⟩
  have bC : Blk (w.alloc (.cells #[.int .i64 x, .string k, .string s, .int .i64 q, .slice A m c] 39)) z [.int .i64 x, .string k, .string s, .int .i64 q, .slice A m c] 39 := by rw [← hz]; exact Blk.new w _ _
  have hb : Below w.heap.size w (w.alloc (.cells #[.int .i64 x, .string k, .string s, .int .i64 q, .slice A m c] 39)) := Below.of_alloc w _
  have hask := fun W => ask_any x k s q (.slice A m c) ⟨A, m, c, rfl⟩ hx W
  rw [hK] at hask
  unfold In64 at hn
  clear hx hK
  replace h := Lib.hid h
  replace hb := Lib.hid hb
  replace bC := Lib.hid bC
  replace hz := Lib.hid hz
  unfold ptrV
  go_enter Tryz.func13, Tryz.ntmps13
  go_upto_region 1 with fail
  try rw [hz.out]
  generalize (w.alloc (.cells #[.int .i64 x, .string k, .string s, .int .i64 q, .slice A m c] 39)) = w1 at bC hb ⊢
  have e0 := bC.out.cell (i := 0) rfl
  have e1 := bC.out.cell (i := 1) rfl
  have e2 := bC.out.cell (i := 2) rfl
  have e3 := bC.out.cell (i := 3) rfl
  have e4 := bC.out.cell (i := 4) rfl
  have lz := bC.out.lt
  have ha := hask w1
  go_wp2_with fail
  refine ha.mono ?_
  rintro e w2 ⟨rfl, hb2⟩
  have bD : Blk w2 z _ _ := (hb2.block z lz).trans bC.out
  have hbD := hb.out.trans (hb2.mono hb.out.size)
  have hS := h.out.below hbD
  have hF := FrD.of_below hbD h.out.hBw
  clear e0 e1 e2 e3 e4 lz ha hask bC hb hb2 h
  have e0 := bD.cell (i := 0) rfl
  have e1 := bD.cell (i := 1) rfl
  have e2 := bD.cell (i := 2) rfl
  have e3 := bD.cell (i := 3) rfl
  have e4 := bD.cell (i := 4) rfl
  have lz := bD.lt
  replace bD := Lib.hid bD
  replace hbD := Lib.hid hbD
  have hc := th_undo hS.th
  unfold ptrV at hc
  replace hS := Lib.hid hS
  replace hF := Lib.hid hF
  go_wp2_with fail
  refine hc.mono ?_
  rintro e w3 ⟨rfl, q1, q2⟩
  have hfin : Hid (StAt w3 B sb a (pot + 10) _ n ∧ FrD B w w3) := Lib.hid ⟨(hS.out.next q1 q2).mono (by omega), hF.out.trans (hS.out.frD q2)⟩
  clear hc q1 q2 e0 e1 e2 e3 e4 lz hS hF
  go_wp2
  go_ret
  exact ⟨rfl, hfin.out⟩
set_option maxRecDepth 100000 in
set_option maxHeartbeats 8000000 in
theorem does_19 (h : StAt w B sb a pot t n) (x : Int) (k s : ByteArray) (q : Int) (A : Option Addr) (m c : Nat) (hx : In64 x) (hn : In64 q) (hK : askI x = 19) (hk : k.size ≤ 200) (hs : s.size ≤ 5000) :
    Calls Tryz.prog 13 #[ptrV sb, ptrV a.l, .agg #[.int .i64 x, .string k, .string s, .int .i64 q, .slice A m c]] w fun e w' => e = .returned (.int .i64 (t.undo).1) ∧ StAt w' B sb a (pot + 10) (t.undo).2 n ∧ FrD B w w' := by
  obtain ⟨z, hz⟩ : ∃ z, w.heap.size = z := ⟨_, rfl⟩
  have bC : Blk (w.alloc (.cells #[.int .i64 x, .string k, .string s, .int .i64 q, .slice A m c] 39)) z [.int .i64 x, .string k, .string s, .int .i64 q, .slice A m c] 39 := by rw [← hz]; exact Blk.new w _ _
  have hb : Below w.heap.size w (w.alloc (.cells #[.int .i64 x, .string k, .string s, .int .i64 q, .slice A m c] 39)) := Below.of_alloc w _
  have hask := fun W => ask_any x k s q (.slice A m c) ⟨A, m, c, rfl⟩ hx W
  rw [hK] at hask
  unfold In64 at hn
  clear hx hK
  replace h := Lib.hid h
  replace hb := Lib.hid hb
  replace bC := Lib.hid bC
  replace hz := Lib.hid hz
  unfold ptrV
  go_enter Tryz.func13, Tryz.ntmps13
  go_upto_region 1 with fail
  try rw [hz.out]
  generalize (w.alloc (.cells #[.int .i64 x, .string k, .string s, .int .i64 q, .slice A m c] 39)) = w1 at bC hb ⊢
  have e0 := bC.out.cell (i := 0) rfl
  have e1 := bC.out.cell (i := 1) rfl
  have e2 := bC.out.cell (i := 2) rfl
  have e3 := bC.out.cell (i := 3) rfl
  have e4 := bC.out.cell (i := 4) rfl
  have lz := bC.out.lt
  have ha := hask w1
  go_wp2_with fail
  refine ha.mono ?_
  rintro e w2 ⟨rfl, hb2⟩
  have bD : Blk w2 z _ _ := (hb2.block z lz).trans bC.out
  have hbD := hb.out.trans (hb2.mono hb.out.size)
  have hS := h.out.below hbD
  have hF := FrD.of_below hbD h.out.hBw
  clear e0 e1 e2 e3 e4 lz ha hask bC hb hb2 h
  have e0 := bD.cell (i := 0) rfl
  have e1 := bD.cell (i := 1) rfl
  have e2 := bD.cell (i := 2) rfl
  have e3 := bD.cell (i := 3) rfl
  have e4 := bD.cell (i := 4) rfl
  have lz := bD.lt
  replace bD := Lib.hid bD
  replace hbD := Lib.hid hbD
  have hc := th_undo hS.th
  unfold ptrV at hc
  replace hS := Lib.hid hS
  replace hF := Lib.hid hF
  go_wp2_with fail
  refine hc.mono ?_
  rintro e w3 ⟨rfl, q1, q2⟩
  have hfin : Hid (StAt w3 B sb a (pot + 10) _ n ∧ FrD B w w3) := Lib.hid ⟨(hS.out.next q1 q2).mono (by omega), hF.out.trans (hS.out.frD q2)⟩
  clear hc q1 q2 e0 e1 e2 e3 e4 lz hS hF
  go_wp2
  go_ret
  exact ⟨rfl, hfin.out⟩
set_option maxRecDepth 100000 in
set_option maxHeartbeats 8000000 in
theorem does_3 (h : StAt w B sb a pot t n) (x : Int) (k s : ByteArray) (q : Int) (A : Option Addr) (m c : Nat) (hx : In64 x) (hn : In64 q) (hK : askI x = 3) (hk : k.size ≤ 200) (hs : s.size ≤ 5000) :
    Calls Tryz.prog 13 #[ptrV sb, ptrV a.l, .agg #[.int .i64 x, .string k, .string s, .int .i64 q, .slice A m c]] w fun e w' => e = .returned (.int .i64 (t.setF k ⟨6, s⟩).1) ∧ StAt w' B sb a (pot + 10) (t.setF k ⟨6, s⟩).2 n ∧ FrD B w w' := by
  obtain ⟨z, hz⟩ : ∃ z, w.heap.size = z := ⟨_, rfl⟩
  have bC : Blk (w.alloc (.cells #[.int .i64 x, .string k, .string s, .int .i64 q, .slice A m c] 39)) z [.int .i64 x, .string k, .string s, .int .i64 q, .slice A m c] 39 := by rw [← hz]; exact Blk.new w _ _
  have hb : Below w.heap.size w (w.alloc (.cells #[.int .i64 x, .string k, .string s, .int .i64 q, .slice A m c] 39)) := Below.of_alloc w _
  have hask := fun W => ask_any x k s q (.slice A m c) ⟨A, m, c, rfl⟩ hx W
  rw [hK] at hask
  unfold In64 at hn
  clear hx hK
  replace h := Lib.hid h
  replace hb := Lib.hid hb
  replace bC := Lib.hid bC
  replace hz := Lib.hid hz
  unfold ptrV
  go_enter Tryz.func13, Tryz.ntmps13
  go_upto_region 1 with fail
  try rw [hz.out]
  generalize (w.alloc (.cells #[.int .i64 x, .string k, .string s, .int .i64 q, .slice A m c] 39)) = w1 at bC hb ⊢
  have e0 := bC.out.cell (i := 0) rfl
  have e1 := bC.out.cell (i := 1) rfl
  have e2 := bC.out.cell (i := 2) rfl
  have e3 := bC.out.cell (i := 3) rfl
  have e4 := bC.out.cell (i := 4) rfl
  have lz := bC.out.lt
  have ha := hask w1
  go_wp2_with fail
  refine ha.mono ?_
  rintro e w2 ⟨rfl, hb2⟩
  have bD : Blk w2 z _ _ := (hb2.block z lz).trans bC.out
  have hbD := hb.out.trans (hb2.mono hb.out.size)
  have hS := h.out.below hbD
  have hF := FrD.of_below hbD h.out.hBw
  clear e0 e1 e2 e3 e4 lz ha hask bC hb hb2 h
  have e0 := bD.cell (i := 0) rfl
  have e1 := bD.cell (i := 1) rfl
  have e2 := bD.cell (i := 2) rfl
  have e3 := bD.cell (i := 3) rfl
  have e4 := bD.cell (i := 4) rfl
  have lz := bD.lt
  replace bD := Lib.hid bD
  replace hbD := Lib.hid hbD
  have hS1 := hS.below (drewN_below w2 1)
  have hF1 := hF.trans (FrD.of_below (drewN_below w2 1) hS.hBw)
  have hk0 : w2.drew.cell? ⟨z, 1, none⟩ = some (.string k) ∧ w2.drew.cell? ⟨z, 2, none⟩ = some (.string s) := ⟨e1, e2⟩
  have bD1 : Blk w2.drew z _ _ := bD.out
  have hn4 := node_any s w2.drew
  replace hS1 := Lib.hid hS1
  replace hF1 := Lib.hid hF1
  replace bD1 := Lib.hid bD1
  clear e0 e3 e4 hS hF bD
  go_wp2
  go_region_held3 (fun w' => w'.cell? ⟨z, 1, none⟩ = some (.string k) ∧ w'.cell? ⟨z, 2, none⟩ = some (.string s))
    (first | go_keep | exact hk0 | exact hk1 | exact hk2)
    (first
      | (go_at_call 42; refine hn4.mono ?_; rintro e w4 ⟨rfl, hb4⟩; have b4 : Blk w4 z _ _ := (hb4.block z bD1.out.lt).trans bD1.out; have l4 := b4.lt; have hk1 : w4.cell? ⟨z, 1, none⟩ = some (.string k) ∧ w4.cell? ⟨z, 2, none⟩ = some (.string s) := ⟨b4.cell (i := 1) rfl, b4.cell (i := 2) rfl⟩; replace b4 := Lib.hid b4; have hS4 := hS1.out.below hb4; have hF4 := Lib.hid (hF1.out.trans (FrD.of_below hb4 hS1.out.hBw)); have hs5 := SetFunc_any hS4 k hk ⟨6, s⟩; unfold ptrV encN at hs5; replace hS4 := Lib.hid hS4; clear hb4)
      | (go_at_call 41; refine hs5.mono ?_; rintro e w5 ⟨rfl, q1, q2⟩; have b5 : Blk w5 z _ _ := (hS4.out.frD q2).keep _ _ _ b4.out (nPk (by decide)) (by decide); have hk2 : w5.cell? ⟨z, 1, none⟩ = some (.string k) ∧ w5.cell? ⟨z, 2, none⟩ = some (.string s) := ⟨b5.cell (i := 1) rfl, b5.cell (i := 2) rfl⟩; have hfin : Hid (StAt w5 B sb a (pot + 10) _ n ∧ FrD B w w5) := Lib.hid ⟨q1.mono (by omega), hF4.out.trans (hS4.out.frD q2)⟩; clear q1 q2 b5))
  clear hk0 hk1 hk2 hn4 hs5 e1 e2 l4 lz
  go_wp2
  go_ret
  exact ⟨rfl, hfin.out⟩
set_option maxRecDepth 100000 in
set_option maxHeartbeats 8000000 in
theorem does_10a (h : StAt w B sb a pot t n) (x : Int) (k s : ByteArray) (q : Int) (A : Option Addr) (m c : Nat) (hx : In64 x) (hn : In64 q) (hK : askI x = 10) (hk : k.size ≤ 200) (hs : s.size ≤ 5000) (h2 : q.tmod 2 = 0) :
    Calls Tryz.prog 13 #[ptrV sb, ptrV a.l, .agg #[.int .i64 x, .string k, .string s, .int .i64 q, .slice A m c]] w fun e w' => e = .returned (.int .i64 (t.setO (firstB s) false).1) ∧ StAt w' B sb a (pot + 10) (t.setO (firstB s) false).2 n ∧ FrD B w w' := by
  obtain ⟨z, hz⟩ : ∃ z, w.heap.size = z := ⟨_, rfl⟩
  have bC : Blk (w.alloc (.cells #[.int .i64 x, .string k, .string s, .int .i64 q, .slice A m c] 39)) z [.int .i64 x, .string k, .string s, .int .i64 q, .slice A m c] 39 := by rw [← hz]; exact Blk.new w _ _
  have hb : Below w.heap.size w (w.alloc (.cells #[.int .i64 x, .string k, .string s, .int .i64 q, .slice A m c] 39)) := Below.of_alloc w _
  have hask := fun W => ask_any x k s q (.slice A m c) ⟨A, m, c, rfl⟩ hx W
  rw [hK] at hask
  unfold In64 at hn
  clear hx hK
  replace h := Lib.hid h
  replace hb := Lib.hid hb
  replace bC := Lib.hid bC
  replace hz := Lib.hid hz
  unfold ptrV
  go_enter Tryz.func13, Tryz.ntmps13
  go_upto_region 1 with fail
  try rw [hz.out]
  generalize (w.alloc (.cells #[.int .i64 x, .string k, .string s, .int .i64 q, .slice A m c] 39)) = w1 at bC hb ⊢
  have e0 := bC.out.cell (i := 0) rfl
  have e1 := bC.out.cell (i := 1) rfl
  have e2 := bC.out.cell (i := 2) rfl
  have e3 := bC.out.cell (i := 3) rfl
  have e4 := bC.out.cell (i := 4) rfl
  have lz := bC.out.lt
  have ha := hask w1
  go_wp2_with fail
  refine ha.mono ?_
  rintro e w2 ⟨rfl, hb2⟩
  have bD : Blk w2 z _ _ := (hb2.block z lz).trans bC.out
  have hbD := hb.out.trans (hb2.mono hb.out.size)
  have hS := h.out.below hbD
  have hF := FrD.of_below hbD h.out.hBw
  clear e0 e1 e2 e3 e4 lz ha hask bC hb hb2 h
  have e0 := bD.cell (i := 0) rfl
  have e1 := bD.cell (i := 1) rfl
  have e2 := bD.cell (i := 2) rfl
  have e3 := bD.cell (i := 3) rfl
  have e4 := bD.cell (i := 4) rfl
  have lz := bD.lt
  replace bD := Lib.hid bD
  replace hbD := Lib.hid hbD
  have hS1 := hS.below (drewN_below w2 1)
  have hF1 := hF.trans (FrD.of_below (drewN_below w2 1) hS.hBw)
  have hk0 : w2.drew.cell? ⟨z, 2, none⟩ = some (.string s) ∧ w2.drew.cell? ⟨z, 3, none⟩ = some (.int .i64 q) := ⟨e2, e3⟩
  have bD1 : Blk w2.drew z _ _ := bD.out
  have hn4 := first_any s (by omega) w2.drew
  have hs5 := SetOption_any hS1 (firstB s) false
  unfold ptrV at hs5
  replace hS1 := Lib.hid hS1
  replace hF1 := Lib.hid hF1
  replace bD1 := Lib.hid bD1
  clear e0 e1 e4 hS hF bD
  go_wp2
  go_region_held3 (fun w' => w'.cell? ⟨z, 2, none⟩ = some (.string s) ∧ w'.cell? ⟨z, 3, none⟩ = some (.int .i64 q))
    (first | go_keep | exact hk0 | exact hk2)
    (first
      | (go_at_call 47; refine hn4.mono ?_; rintro e w4 ⟨rfl, rfl⟩)
      | (go_at_call 30; refine hs5.mono ?_; rintro e w5 ⟨rfl, q1, q2⟩; have b5 : Blk w5 z _ _ := (hS1.out.frD q2).keep _ _ _ bD1.out (nPk (by decide)) (by decide); have hk2 : w5.cell? ⟨z, 2, none⟩ = some (.string s) ∧ w5.cell? ⟨z, 3, none⟩ = some (.int .i64 q) := ⟨b5.cell (i := 2) rfl, b5.cell (i := 3) rfl⟩; have hfin : Hid (StAt w5 B sb a (pot + 10) _ n ∧ FrD B w w5) := Lib.hid ⟨q1.mono (by omega), hF1.out.trans (hS1.out.frD q2)⟩; clear q1 q2 b5))
  clear hk0 hk2 hn4 hs5 e2 e3 lz
  go_wp2
  go_ret
  exact ⟨rfl, hfin.out⟩
set_option maxRecDepth 100000 in
set_option maxHeartbeats 8000000 in
theorem does_10b (h : StAt w B sb a pot t n) (x : Int) (k s : ByteArray) (q : Int) (A : Option Addr) (m c : Nat) (hx : In64 x) (hn : In64 q) (hK : askI x = 10) (hk : k.size ≤ 200) (hs : s.size ≤ 5000) (h2 : ¬ q.tmod 2 = 0) :
    Calls Tryz.prog 13 #[ptrV sb, ptrV a.l, .agg #[.int .i64 x, .string k, .string s, .int .i64 q, .slice A m c]] w fun e w' => e = .returned (.int .i64 (t.setO (firstB s) true).1) ∧ StAt w' B sb a (pot + 10) (t.setO (firstB s) true).2 n ∧ FrD B w w' := by
  obtain ⟨z, hz⟩ : ∃ z, w.heap.size = z := ⟨_, rfl⟩
  have bC : Blk (w.alloc (.cells #[.int .i64 x, .string k, .string s, .int .i64 q, .slice A m c] 39)) z [.int .i64 x, .string k, .string s, .int .i64 q, .slice A m c] 39 := by rw [← hz]; exact Blk.new w _ _
  have hb : Below w.heap.size w (w.alloc (.cells #[.int .i64 x, .string k, .string s, .int .i64 q, .slice A m c] 39)) := Below.of_alloc w _
  have hask := fun W => ask_any x k s q (.slice A m c) ⟨A, m, c, rfl⟩ hx W
  rw [hK] at hask
  unfold In64 at hn
  clear hx hK
  replace h := Lib.hid h
  replace hb := Lib.hid hb
  replace bC := Lib.hid bC
  replace hz := Lib.hid hz
  have h2b : (q.tmod 2 != 0) = true := bne_iff_ne.2 h2
  clear h2
  unfold ptrV
  go_enter Tryz.func13, Tryz.ntmps13
  go_upto_region 1 with fail
  try rw [hz.out]
  generalize (w.alloc (.cells #[.int .i64 x, .string k, .string s, .int .i64 q, .slice A m c] 39)) = w1 at bC hb ⊢
  have e0 := bC.out.cell (i := 0) rfl
  have e1 := bC.out.cell (i := 1) rfl
  have e2 := bC.out.cell (i := 2) rfl
  have e3 := bC.out.cell (i := 3) rfl
  have e4 := bC.out.cell (i := 4) rfl
  have lz := bC.out.lt
  have ha := hask w1
  go_wp2_with fail
  refine ha.mono ?_
  rintro e w2 ⟨rfl, hb2⟩
  have bD : Blk w2 z _ _ := (hb2.block z lz).trans bC.out
  have hbD := hb.out.trans (hb2.mono hb.out.size)
  have hS := h.out.below hbD
  have hF := FrD.of_below hbD h.out.hBw
  clear e0 e1 e2 e3 e4 lz ha hask bC hb hb2 h
  have e0 := bD.cell (i := 0) rfl
  have e1 := bD.cell (i := 1) rfl
  have e2 := bD.cell (i := 2) rfl
  have e3 := bD.cell (i := 3) rfl
  have e4 := bD.cell (i := 4) rfl
  have lz := bD.lt
  replace bD := Lib.hid bD
  replace hbD := Lib.hid hbD
  have hS1 := hS.below (drewN_below w2 1)
  have hF1 := hF.trans (FrD.of_below (drewN_below w2 1) hS.hBw)
  have hk0 : w2.drew.cell? ⟨z, 2, none⟩ = some (.string s) ∧ w2.drew.cell? ⟨z, 3, none⟩ = some (.int .i64 q) := ⟨e2, e3⟩
  have bD1 : Blk w2.drew z _ _ := bD.out
  have hn4 := first_any s (by omega) w2.drew
  have hs5 := SetOption_any hS1 (firstB s) true
  unfold ptrV at hs5
  replace hS1 := Lib.hid hS1
  replace hF1 := Lib.hid hF1
  replace bD1 := Lib.hid bD1
  clear e0 e1 e4 hS hF bD
  go_wp2
  go_region_held3 (fun w' => w'.cell? ⟨z, 2, none⟩ = some (.string s) ∧ w'.cell? ⟨z, 3, none⟩ = some (.int .i64 q))
    (first | go_keep | exact hk0 | exact hk2)
    (first
      | (go_at_call 47; refine hn4.mono ?_; rintro e w4 ⟨rfl, rfl⟩)
      | (go_at_call 30; refine hs5.mono ?_; rintro e w5 ⟨rfl, q1, q2⟩; have b5 : Blk w5 z _ _ := (hS1.out.frD q2).keep _ _ _ bD1.out (nPk (by decide)) (by decide); have hk2 : w5.cell? ⟨z, 2, none⟩ = some (.string s) ∧ w5.cell? ⟨z, 3, none⟩ = some (.int .i64 q) := ⟨b5.cell (i := 2) rfl, b5.cell (i := 3) rfl⟩; have hfin : Hid (StAt w5 B sb a (pot + 10) _ n ∧ FrD B w w5) := Lib.hid ⟨q1.mono (by omega), hF1.out.trans (hS1.out.frD q2)⟩; clear q1 q2 b5))
  clear hk0 hk2 hn4 hs5 e2 e3 lz
  go_wp2
  go_ret
  exact ⟨rfl, hfin.out⟩
set_option maxRecDepth 100000 in
set_option maxHeartbeats 8000000 in
theorem does_11a (h : StAt w B sb a pot t n) (x : Int) (k s : ByteArray) (q : Int) (A : Option Addr) (m c : Nat) (hx : In64 x) (hn : In64 q) (hK : askI x = 11) (hk : k.size ≤ 200) (hs : s.size ≤ 5000) (h2 : q.tmod 2 = 0) :
    Calls Tryz.prog 13 #[ptrV sb, ptrV a.l, .agg #[.int .i64 x, .string k, .string s, .int .i64 q, .slice A m c]] w fun e w' => e = .returned (.int .i64 (t.setO (firstB s) false).1) ∧ StAt w' B sb a (pot + 10) (t.setO (firstB s) false).2 n ∧ FrD B w w' := by
  obtain ⟨z, hz⟩ : ∃ z, w.heap.size = z := ⟨_, rfl⟩
  have bC : Blk (w.alloc (.cells #[.int .i64 x, .string k, .string s, .int .i64 q, .slice A m c] 39)) z [.int .i64 x, .string k, .string s, .int .i64 q, .slice A m c] 39 := by rw [← hz]; exact Blk.new w _ _
  have hb : Below w.heap.size w (w.alloc (.cells #[.int .i64 x, .string k, .string s, .int .i64 q, .slice A m c] 39)) := Below.of_alloc w _
  have hask := fun W => ask_any x k s q (.slice A m c) ⟨A, m, c, rfl⟩ hx W
  rw [hK] at hask
  unfold In64 at hn
  clear hx hK
  replace h := Lib.hid h
  replace hb := Lib.hid hb
  replace bC := Lib.hid bC
  replace hz := Lib.hid hz
  unfold ptrV
  go_enter Tryz.func13, Tryz.ntmps13
  go_upto_region 1 with fail
  try rw [hz.out]
  generalize (w.alloc (.cells #[.int .i64 x, .string k, .string s, .int .i64 q, .slice A m c] 39)) = w1 at bC hb ⊢
  have e0 := bC.out.cell (i := 0) rfl
  have e1 := bC.out.cell (i := 1) rfl
  have e2 := bC.out.cell (i := 2) rfl
  have e3 := bC.out.cell (i := 3) rfl
  have e4 := bC.out.cell (i := 4) rfl
  have lz := bC.out.lt
  have ha := hask w1
  go_wp2_with fail
  refine ha.mono ?_
  rintro e w2 ⟨rfl, hb2⟩
  have bD : Blk w2 z _ _ := (hb2.block z lz).trans bC.out
  have hbD := hb.out.trans (hb2.mono hb.out.size)
  have hS := h.out.below hbD
  have hF := FrD.of_below hbD h.out.hBw
  clear e0 e1 e2 e3 e4 lz ha hask bC hb hb2 h
  have e0 := bD.cell (i := 0) rfl
  have e1 := bD.cell (i := 1) rfl
  have e2 := bD.cell (i := 2) rfl
  have e3 := bD.cell (i := 3) rfl
  have e4 := bD.cell (i := 4) rfl
  have lz := bD.lt
  replace bD := Lib.hid bD
  replace hbD := Lib.hid hbD
  have hS1 := hS.below (drewN_below w2 1)
  have hF1 := hF.trans (FrD.of_below (drewN_below w2 1) hS.hBw)
  have hk0 : w2.drew.cell? ⟨z, 2, none⟩ = some (.string s) ∧ w2.drew.cell? ⟨z, 3, none⟩ = some (.int .i64 q) := ⟨e2, e3⟩
  have bD1 : Blk w2.drew z _ _ := bD.out
  have hn4 := first_any s (by omega) w2.drew
  have hs5 := SetOption_any hS1 (firstB s) false
  unfold ptrV at hs5
  replace hS1 := Lib.hid hS1
  replace hF1 := Lib.hid hF1
  replace bD1 := Lib.hid bD1
  clear e0 e1 e4 hS hF bD
  go_wp2
  go_region_held3 (fun w' => w'.cell? ⟨z, 2, none⟩ = some (.string s) ∧ w'.cell? ⟨z, 3, none⟩ = some (.int .i64 q))
    (first | go_keep | exact hk0 | exact hk2)
    (first
      | (go_at_call 47; refine hn4.mono ?_; rintro e w4 ⟨rfl, rfl⟩)
      | (go_at_call 30; refine hs5.mono ?_; rintro e w5 ⟨rfl, q1, q2⟩; have b5 : Blk w5 z _ _ := (hS1.out.frD q2).keep _ _ _ bD1.out (nPk (by decide)) (by decide); have hk2 : w5.cell? ⟨z, 2, none⟩ = some (.string s) ∧ w5.cell? ⟨z, 3, none⟩ = some (.int .i64 q) := ⟨b5.cell (i := 2) rfl, b5.cell (i := 3) rfl⟩; have hfin : Hid (StAt w5 B sb a (pot + 10) _ n ∧ FrD B w w5) := Lib.hid ⟨q1.mono (by omega), hF1.out.trans (hS1.out.frD q2)⟩; clear q1 q2 b5))
  clear hk0 hk2 hn4 hs5 e2 e3 lz
  go_wp2
  go_ret
  exact ⟨rfl, hfin.out⟩
set_option maxRecDepth 100000 in
set_option maxHeartbeats 8000000 in
theorem does_11b (h : StAt w B sb a pot t n) (x : Int) (k s : ByteArray) (q : Int) (A : Option Addr) (m c : Nat) (hx : In64 x) (hn : In64 q) (hK : askI x = 11) (hk : k.size ≤ 200) (hs : s.size ≤ 5000) (h2 : ¬ q.tmod 2 = 0) :
    Calls Tryz.prog 13 #[ptrV sb, ptrV a.l, .agg #[.int .i64 x, .string k, .string s, .int .i64 q, .slice A m c]] w fun e w' => e = .returned (.int .i64 (t.setO (firstB s) true).1) ∧ StAt w' B sb a (pot + 10) (t.setO (firstB s) true).2 n ∧ FrD B w w' := by
  obtain ⟨z, hz⟩ : ∃ z, w.heap.size = z := ⟨_, rfl⟩
  have bC : Blk (w.alloc (.cells #[.int .i64 x, .string k, .string s, .int .i64 q, .slice A m c] 39)) z [.int .i64 x, .string k, .string s, .int .i64 q, .slice A m c] 39 := by rw [← hz]; exact Blk.new w _ _
  have hb : Below w.heap.size w (w.alloc (.cells #[.int .i64 x, .string k, .string s, .int .i64 q, .slice A m c] 39)) := Below.of_alloc w _
  have hask := fun W => ask_any x k s q (.slice A m c) ⟨A, m, c, rfl⟩ hx W
  rw [hK] at hask
  unfold In64 at hn
  clear hx hK
  replace h := Lib.hid h
  replace hb := Lib.hid hb
  replace bC := Lib.hid bC
  replace hz := Lib.hid hz
  have h2b : (q.tmod 2 != 0) = true := bne_iff_ne.2 h2
  clear h2
  unfold ptrV
  go_enter Tryz.func13, Tryz.ntmps13
  go_upto_region 1 with fail
  try rw [hz.out]
  generalize (w.alloc (.cells #[.int .i64 x, .string k, .string s, .int .i64 q, .slice A m c] 39)) = w1 at bC hb ⊢
  have e0 := bC.out.cell (i := 0) rfl
  have e1 := bC.out.cell (i := 1) rfl
  have e2 := bC.out.cell (i := 2) rfl
  have e3 := bC.out.cell (i := 3) rfl
  have e4 := bC.out.cell (i := 4) rfl
  have lz := bC.out.lt
  have ha := hask w1
  go_wp2_with fail
  refine ha.mono ?_
  rintro e w2 ⟨rfl, hb2⟩
  have bD : Blk w2 z _ _ := (hb2.block z lz).trans bC.out
  have hbD := hb.out.trans (hb2.mono hb.out.size)
  have hS := h.out.below hbD
  have hF := FrD.of_below hbD h.out.hBw
  clear e0 e1 e2 e3 e4 lz ha hask bC hb hb2 h
  have e0 := bD.cell (i := 0) rfl
  have e1 := bD.cell (i := 1) rfl
  have e2 := bD.cell (i := 2) rfl
  have e3 := bD.cell (i := 3) rfl
  have e4 := bD.cell (i := 4) rfl
  have lz := bD.lt
  replace bD := Lib.hid bD
  replace hbD := Lib.hid hbD
  have hS1 := hS.below (drewN_below w2 1)
  have hF1 := hF.trans (FrD.of_below (drewN_below w2 1) hS.hBw)
  have hk0 : w2.drew.cell? ⟨z, 2, none⟩ = some (.string s) ∧ w2.drew.cell? ⟨z, 3, none⟩ = some (.int .i64 q) := ⟨e2, e3⟩
  have bD1 : Blk w2.drew z _ _ := bD.out
  have hn4 := first_any s (by omega) w2.drew
  have hs5 := SetOption_any hS1 (firstB s) true
  unfold ptrV at hs5
  replace hS1 := Lib.hid hS1
  replace hF1 := Lib.hid hF1
  replace bD1 := Lib.hid bD1
  clear e0 e1 e4 hS hF bD
  go_wp2
  go_region_held3 (fun w' => w'.cell? ⟨z, 2, none⟩ = some (.string s) ∧ w'.cell? ⟨z, 3, none⟩ = some (.int .i64 q))
    (first | go_keep | exact hk0 | exact hk2)
    (first
      | (go_at_call 47; refine hn4.mono ?_; rintro e w4 ⟨rfl, rfl⟩)
      | (go_at_call 30; refine hs5.mono ?_; rintro e w5 ⟨rfl, q1, q2⟩; have b5 : Blk w5 z _ _ := (hS1.out.frD q2).keep _ _ _ bD1.out (nPk (by decide)) (by decide); have hk2 : w5.cell? ⟨z, 2, none⟩ = some (.string s) ∧ w5.cell? ⟨z, 3, none⟩ = some (.int .i64 q) := ⟨b5.cell (i := 2) rfl, b5.cell (i := 3) rfl⟩; have hfin : Hid (StAt w5 B sb a (pot + 10) _ n ∧ FrD B w w5) := Lib.hid ⟨q1.mono (by omega), hF1.out.trans (hS1.out.frD q2)⟩; clear q1 q2 b5))
  clear hk0 hk2 hn4 hs5 e2 e3 lz
  go_wp2
  go_ret
  exact ⟨rfl, hfin.out⟩
theorem does_any {o : Od} (h : StAt w B sb a pot t n) (htx : Txs w o.A o.m o.c o.l) (hx : In64 o.x) (hn : In64 o.n) (hok : OkO o) (htr : TrapK t.cur) (hp : pot ≤ 90000) :
    Calls Tryz.prog 13 #[ptrV sb, ptrV a.l, .agg #[.int .i64 o.x, .string o.k, .string o.s, .int .i64 o.n, .slice o.A o.m o.c]] w fun e w' => ∃ r t' n', e = .returned (.int .i64 r) ∧ DoR o t (askI o.x) r t' ∧ StAt w' B sb a (pot + 10) t' n' ∧ FrD B w w' ∧ n' = (if askI o.x = 15 then bits .and .i64 o.n 255 else n) := by
  obtain ⟨x, k, s, q, A, m, c, l⟩ := o
  obtain ⟨hk, hs, hm, hl⟩ := hok
  dsimp only at *
  have hl2 : ∀ s ∈ l, s.size ≤ 1000000 := fun s hs => by have := hl s hs; omega
  have hK0 : 0 ≤ askI x ∧ askI x < 20 := by unfold askI; omega
  have done : ∀ (K : Int) (r : Int) (t' : Tg), K ≠ 15 → askI x = K → DoR ⟨x, k, s, q, A, m, c, l⟩ t K r t' → (Calls Tryz.prog 13 #[ptrV sb, ptrV a.l, .agg #[.int .i64 x, .string k, .string s, .int .i64 q, .slice A m c]] w fun e w' => e = .returned (.int .i64 r) ∧ StAt w' B sb a (pot + 10) t' n ∧ FrD B w w') → Calls Tryz.prog 13 #[ptrV sb, ptrV a.l, .agg #[.int .i64 x, .string k, .string s, .int .i64 q, .slice A m c]] w fun e w' => ∃ r t' n', e = .returned (.int .i64 r) ∧ DoR ⟨x, k, s, q, A, m, c, l⟩ t (askI x) r t' ∧ StAt w' B sb a (pot + 10) t' n' ∧ FrD B w w' ∧ n' = (if askI x = 15 then bits .and .i64 q 255 else n) := fun K r t' h15 hK hR hc => hc.mono (by
    rintro e w' ⟨rfl, h1, h2⟩
    exact ⟨r, t', n, rfl, hK.symm ▸ hR, h1, h2, (if_neg (hK.symm ▸ h15)).symm⟩)
  by_cases h0 : askI x = 0
  · exact done 0 _ _ (by decide) h0 .set (does_0 h x k s q A m c hx hn h0 hk hs)
  by_cases h1 : askI x = 1
  · exact done 1 _ _ (by decide) h1 .unset (does_1 h x k s q A m c hx hn h1 hk hs)
  by_cases h2 : askI x = 2
  · have hD : DoR ⟨x, k, s, q, A, m, c, l⟩ t 2 (t.markV k (oddI q) (thirdI q)).1 (t.markV k (oddI q) (thirdI q)).2 := .mark
    by_cases hq2 : q.tmod 2 = 0
    · rw [show oddI q = false from decide_eq_false (fun e => e hq2)] at hD
      by_cases hq3 : q.tmod 3 = 0
      · rw [show thirdI q = true from decide_eq_true hq3] at hD
        exact done 2 _ _ (by decide) h2 hD (does_21 h x k s q A m c hx hn h2 hk hs hq2 hq3)
      · rw [show thirdI q = false from decide_eq_false hq3] at hD
        exact done 2 _ _ (by decide) h2 hD (does_20 h x k s q A m c hx hn h2 hk hs hq2 hq3)
    · rw [show oddI q = true from decide_eq_true hq2] at hD
      by_cases hq3 : q.tmod 3 = 0
      · rw [show thirdI q = true from decide_eq_true hq3] at hD
        exact done 2 _ _ (by decide) h2 hD (does_23 h x k s q A m c hx hn h2 hk hs hq2 hq3)
      · rw [show thirdI q = false from decide_eq_false hq3] at hD
        exact done 2 _ _ (by decide) h2 hD (does_22 h x k s q A m c hx hn h2 hk hs hq2 hq3)
  by_cases h3 : askI x = 3
  · exact done 3 _ _ (by decide) h3 .setF (does_3 h x k s q A m c hx hn h3 hk hs)
  by_cases h4 : askI x = 4
  · exact done 4 _ _ (by decide) h4 .unsetF (does_4 h x k s q A m c hx hn h4 hk hs)
  by_cases h5 : askI x = 5
  · exact done 5 _ _ (by decide) h5 .setA (does_5 h x k s q A m c hx hn h5 hk hs)
  by_cases h6 : askI x = 6
  · exact done 6 _ _ (by decide) h6 .unalias (does_6 h x k s q A m c hx hn h6 hk hs)
  by_cases h7 : askI x = 7
  · exact done 7 _ _ (by decide) h7 .setT (does_7 h x k s q A m c hx hn h7 hk hs)
  by_cases h8 : askI x = 8
  · exact done 8 _ _ (by decide) h8 .untrap (does_8 h x k s q A m c hx hn h8 hk hs)
  by_cases h9 : askI x = 9
  · refine (does_9 h x k s q A m c hx hn h9 hk hs htr hp).mono ?_
    rintro e w' ⟨ns, hns, rfl, q1, q2⟩
    exact ⟨_, _, n, rfl, h9.symm ▸ .enter ns hns, q1, q2, (if_neg (by omega)).symm⟩
  have hO : ∀ K : Int, K = 10 ∨ K = 11 → DoR ⟨x, k, s, q, A, m, c, l⟩ t K (t.setO (firstB s) (oddI q)).1 (t.setO (firstB s) (oddI q)).2 := fun K hK => .opt K hK
  by_cases h10 : askI x = 10
  · have hD := hO 10 (.inl rfl)
    by_cases hq2 : q.tmod 2 = 0
    · rw [show oddI q = false from decide_eq_false (fun e => e hq2)] at hD
      exact done 10 _ _ (by decide) h10 hD (does_10a h x k s q A m c hx hn h10 hk hs hq2)
    · rw [show oddI q = true from decide_eq_true hq2] at hD
      exact done 10 _ _ (by decide) h10 hD (does_10b h x k s q A m c hx hn h10 hk hs hq2)
  by_cases h11 : askI x = 11
  · have hD := hO 11 (.inr rfl)
    by_cases hq2 : q.tmod 2 = 0
    · rw [show oddI q = false from decide_eq_false (fun e => e hq2)] at hD
      exact done 11 _ _ (by decide) h11 hD (does_11a h x k s q A m c hx hn h11 hk hs hq2)
    · rw [show oddI q = true from decide_eq_true hq2] at hD
      exact done 11 _ _ (by decide) h11 hD (does_11b h x k s q A m c hx hn h11 hk hs hq2)
  by_cases h12 : askI x = 12
  · by_cases hno : 1000 < m ∨ greatL l = true
    · exact done 12 _ _ (by decide) h12 (.argsN hno) (does_12n h x k s q A m c hx hn h12 hk hs htx hm hl2 hno)
    · have hm2 : ¬ 1000 < m := fun e => hno (.inl e)
      have hg2 : greatL l = false := Bool.eq_false_iff.2 fun e => hno (.inr e)
      refine (does_12 h x k s q A m c hx hn h12 hk hs htx hm2 hl2 hg2).mono ?_
      rintro e w' ⟨A', c', rfl, q1, q2⟩
      exact ⟨_, _, n, rfl, h12.symm ▸ .args A' c' hm2 hg2, q1, q2, (if_neg (by omega)).symm⟩
  by_cases h13 : askI x = 13
  · by_cases hno : q < 0 ∨ (t.cur.g.n : Int) < q
    · exact done 13 _ _ (by decide) h13 (.shiftN hno) (does_13n h x k s q A m c hx hn h13 hk hs hno)
    · have hq1 : ¬ q < 0 := fun e => hno (.inl e)
      have hq2 : ¬ (t.cur.g.n : Int) < q := fun e => hno (.inr e)
      refine (does_13 h x k s q A m c hx hn h13 hk hs hq1 hq2).mono ?_
      rintro e w' ⟨A', c', rfl, r1, r2⟩
      exact ⟨_, _, n, rfl, h13.symm ▸ .shift A' c' hq1 hq2, r1, r2, (if_neg (by omega)).symm⟩
  by_cases h14 : askI x = 14
  · have hD : DoR ⟨x, k, s, q, A, m, c, l⟩ t 14 (t.setC q (m : Int)).1 (t.setC q (m : Int)).2 := .cursor
    by_cases hq : q < 0
    · rw [show t.setC q (m : Int) = (1, t) from if_pos (.inl hq)] at hD
      exact done 14 _ _ (by decide) h14 hD (does_14n h x k s q A m c hx hn h14 hk hs hq)
    · exact done 14 _ _ (by decide) h14 hD (does_14 h x k s q A m c hx hn h14 hk hs hq)
  by_cases h15 : askI x = 15
  · refine (does_15 h x k s q A m c hx hn h15 hk hs).mono ?_
    rintro e w' ⟨rfl, q1, q2⟩
    exact ⟨0, t, _, rfl, h15.symm ▸ .status, q1, q2, (if_pos h15).symm⟩
  by_cases h16 : askI x = 16
  · exact done 16 _ _ (by decide) h16 (.open_ 16 (.inl rfl)) (does_16 h x k s q A m c hx hn h16 hk hs)
  by_cases h17 : askI x = 17
  · exact done 17 _ _ (by decide) h17 (.open_ 17 (.inr rfl)) (does_17 h x k s q A m c hx hn h17 hk hs)
  by_cases h18 : askI x = 18
  · exact done 18 _ _ (by decide) h18 (.undo 18 (by decide)) (does_18 h x k s q A m c hx hn h18 hk hs)
  · have h19 : askI x = 19 := by omega
    exact done 19 _ _ (by decide) h19 (.undo 19 (by decide)) (does_19 h x k s q A m c hx hn h19 hk hs)
end
end Go.Proofs.YtigmdfdcflkggaaGreat
