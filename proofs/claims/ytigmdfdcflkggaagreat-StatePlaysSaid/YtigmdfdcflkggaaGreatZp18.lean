/-
  What each call that is asked of the document's answer does, but Open and Undo. Conditions: a log with room; keys to 200 bytes.
-/
import Derived.Test.YtigmdfdcflkggaaGreatZp10
import Derived.Test.YtigmdfdcflkggaaGreatZp17
set_option linter.unusedSimpArgs false
set_option linter.unusedVariables false
namespace Go.Proofs.YtigmdfdcflkggaaGreat
open Go Go.RowKit Go.ChangeMaps

section
variable {w w' : World} {rb N p : Nat} {r : Rf} {t : Tg} {n : Int}
theorem RfOut.behind {W W1 : World} {s : Sta} (hb : Below W.heap.size W W1) (h : RfOut W1 rb N n s w') : RfOut W rb N n s w' := by
  obtain ⟨r', h1, h2, h3, h4, h5⟩ := h
  exact ⟨r', h1, h2, h3, h4, stpB hb h5⟩
theorem RfOut.stp {W : World} {s : Sta} (h : RfOut W rb N n s w') : Stp (fun b => b = rb) W w' := by
  obtain ⟨_, _, _, _, _, h5⟩ := h
  exact h5
theorem RfA.lt {W : World} (h : RfA W rb r) : rb < W.heap.size := by
  obtain ⟨_, _, _, _, h⟩ := h
  exact h.blk.lt
set_option maxRecDepth 100000 in
set_option maxHeartbeats 8000000 in
theorem asked_0 {A2 : Option Addr} {m2 c2 : Nat} (hp : Blk w p [ptrV rb, .slice A2 m2 c2] 34) (h : RfA w rb r) (hc : Corr t.cur r) (hbd : Bd N r) (hN : N ≤ 80000) (hf : ¬ t.full) (x : Int) (k s : ByteArray) (q : Int) (A : Option Addr) (m c : Nat) (hx : In64 x) (hn : In64 q) (hK : askI x = 0) (hk : k.size ≤ 200) (hs : s.size ≤ 5000) :
    Calls Tryz.prog 14 #[ptrV p, .agg #[.int .i64 x, .string k, .string s, .int .i64 q, .slice A m c]] w fun e w' => e = .returned (.int .i64 (t.setV k s).1) ∧ RfOut w rb (N + 1) r.n (t.setV k s).2.cur w' := by
  obtain ⟨z, hz⟩ : ∃ z, w.heap.size = z := ⟨_, rfl⟩
  have bC : Blk (w.alloc (.cells #[.int .i64 x, .string k, .string s, .int .i64 q, .slice A m c] 39)) z [.int .i64 x, .string k, .string s, .int .i64 q, .slice A m c] 39 := by rw [← hz]; exact Blk.new w _ _
  have hb : Below w.heap.size w (w.alloc (.cells #[.int .i64 x, .string k, .string s, .int .i64 q, .slice A m c] 39)) := Below.of_alloc w _
  have bP : Blk (w.alloc (.cells #[.int .i64 x, .string k, .string s, .int .i64 q, .slice A m c] 39)) p [ptrV rb, .slice A2 m2 c2] 34 := (hb.block p hp.lt).trans hp
  have hask := fun W => ask_any x k s q (.slice A m c) ⟨A, m, c, rfl⟩ hx W
  rw [hK] at hask
  unfold In64 at hn
  have hzr : ¬ z = rb := fun e => by have := h.lt; omega
  replace hzr := Lib.hid hzr
  clear hx hK hp
  replace h := Lib.hid h
  replace hb := Lib.hid hb
  replace bC := Lib.hid bC
  replace bP := Lib.hid bP
  replace hz := Lib.hid hz
  replace hc := Lib.hid hc
  replace hbd := Lib.hid hbd
  unfold ptrV
  go_enter Tryz.func14, Tryz.ntmps14
  go_upto_region 1 with fail
  try rw [hz.out]
  generalize (w.alloc (.cells #[.int .i64 x, .string k, .string s, .int .i64 q, .slice A m c] 39)) = w1 at bC bP hb ⊢
  have e0 := bC.out.cell (i := 0) rfl
  have e1 := bC.out.cell (i := 1) rfl
  have e2 := bC.out.cell (i := 2) rfl
  have e3 := bC.out.cell (i := 3) rfl
  have e4 := bC.out.cell (i := 4) rfl
  have p0 : w1.cell? ⟨p, 0, none⟩ = some (ptrV rb) := bP.out.cell (i := 0) rfl
  unfold ptrV at p0
  have lp := bP.out.lt
  have lz := bC.out.lt
  have ha := hask w1
  go_wp2_with fail
  refine ha.mono ?_
  rintro e w2 ⟨rfl, hb2⟩
  have bD : Blk w2 z _ _ := (hb2.block z lz).trans bC.out
  have hbD := hb.out.trans (hb2.mono hb.out.size)
  have hS := h.out.below hbD
  clear e0 e1 e2 e3 e4 lz lp p0 ha hask bC hb hb2 h bP
  have e0 := bD.cell (i := 0) rfl
  have e1 := bD.cell (i := 1) rfl
  have e2 := bD.cell (i := 2) rfl
  have e3 := bD.cell (i := 3) rfl
  have e4 := bD.cell (i := 4) rfl
  have lz := bD.lt
  replace bD := Lib.hid bD
  replace hbD := Lib.hid hbD
  have hcl := a_set hS hc.out hbd.out hN hf k s (by omega)
  unfold ptrV at hcl
  replace hS := Lib.hid hS
  go_wp2_with fail
  refine hcl.mono ?_
  rintro e w3 ⟨rfl, ho⟩
  have hfin := Lib.hid (ho.behind hbD.out)
  clear hcl ho e0 e1 e2 e3 e4 lz hS hbD bD hc hbd
  go_wp2
  go_ret
  exact ⟨rfl, hfin.out⟩
set_option maxRecDepth 100000 in
set_option maxHeartbeats 8000000 in
theorem asked_1 {A2 : Option Addr} {m2 c2 : Nat} (hp : Blk w p [ptrV rb, .slice A2 m2 c2] 34) (h : RfA w rb r) (hc : Corr t.cur r) (hbd : Bd N r) (hN : N ≤ 80000) (hf : ¬ t.full) (x : Int) (k s : ByteArray) (q : Int) (A : Option Addr) (m c : Nat) (hx : In64 x) (hn : In64 q) (hK : askI x = 1) (hk : k.size ≤ 200) (hs : s.size ≤ 5000) :
    Calls Tryz.prog 14 #[ptrV p, .agg #[.int .i64 x, .string k, .string s, .int .i64 q, .slice A m c]] w fun e w' => e = .returned (.int .i64 (t.unsetV k).1) ∧ RfOut w rb (N + 1) r.n (t.unsetV k).2.cur w' := by
  obtain ⟨z, hz⟩ : ∃ z, w.heap.size = z := ⟨_, rfl⟩
  have bC : Blk (w.alloc (.cells #[.int .i64 x, .string k, .string s, .int .i64 q, .slice A m c] 39)) z [.int .i64 x, .string k, .string s, .int .i64 q, .slice A m c] 39 := by rw [← hz]; exact Blk.new w _ _
  have hb : Below w.heap.size w (w.alloc (.cells #[.int .i64 x, .string k, .string s, .int .i64 q, .slice A m c] 39)) := Below.of_alloc w _
  have bP : Blk (w.alloc (.cells #[.int .i64 x, .string k, .string s, .int .i64 q, .slice A m c] 39)) p [ptrV rb, .slice A2 m2 c2] 34 := (hb.block p hp.lt).trans hp
  have hask := fun W => ask_any x k s q (.slice A m c) ⟨A, m, c, rfl⟩ hx W
  rw [hK] at hask
  unfold In64 at hn
  have hzr : ¬ z = rb := fun e => by have := h.lt; omega
  replace hzr := Lib.hid hzr
  clear hx hK hp
  replace h := Lib.hid h
  replace hb := Lib.hid hb
  replace bC := Lib.hid bC
  replace bP := Lib.hid bP
  replace hz := Lib.hid hz
  replace hc := Lib.hid hc
  replace hbd := Lib.hid hbd
  unfold ptrV
  go_enter Tryz.func14, Tryz.ntmps14
  go_upto_region 1 with fail
  try rw [hz.out]
  generalize (w.alloc (.cells #[.int .i64 x, .string k, .string s, .int .i64 q, .slice A m c] 39)) = w1 at bC bP hb ⊢
  have e0 := bC.out.cell (i := 0) rfl
  have e1 := bC.out.cell (i := 1) rfl
  have e2 := bC.out.cell (i := 2) rfl
  have e3 := bC.out.cell (i := 3) rfl
  have e4 := bC.out.cell (i := 4) rfl
  have p0 : w1.cell? ⟨p, 0, none⟩ = some (ptrV rb) := bP.out.cell (i := 0) rfl
  unfold ptrV at p0
  have lp := bP.out.lt
  have lz := bC.out.lt
  have ha := hask w1
  go_wp2_with fail
  refine ha.mono ?_
  rintro e w2 ⟨rfl, hb2⟩
  have bD : Blk w2 z _ _ := (hb2.block z lz).trans bC.out
  have hbD := hb.out.trans (hb2.mono hb.out.size)
  have hS := h.out.below hbD
  clear e0 e1 e2 e3 e4 lz lp p0 ha hask bC hb hb2 h bP
  have e0 := bD.cell (i := 0) rfl
  have e1 := bD.cell (i := 1) rfl
  have e2 := bD.cell (i := 2) rfl
  have e3 := bD.cell (i := 3) rfl
  have e4 := bD.cell (i := 4) rfl
  have lz := bD.lt
  replace bD := Lib.hid bD
  replace hbD := Lib.hid hbD
  have hcl := a_unset hS hc.out hbd.out hN hf k (by omega)
  unfold ptrV at hcl
  replace hS := Lib.hid hS
  go_wp2_with fail
  refine hcl.mono ?_
  rintro e w3 ⟨rfl, ho⟩
  have hfin := Lib.hid (ho.behind hbD.out)
  clear hcl ho e0 e1 e2 e3 e4 lz hS hbD bD hc hbd
  go_wp2
  go_ret
  exact ⟨rfl, hfin.out⟩
set_option maxRecDepth 100000 in
set_option maxHeartbeats 8000000 in
theorem asked_4 {A2 : Option Addr} {m2 c2 : Nat} (hp : Blk w p [ptrV rb, .slice A2 m2 c2] 34) (h : RfA w rb r) (hc : Corr t.cur r) (hbd : Bd N r) (hN : N ≤ 80000) (hf : ¬ t.full) (x : Int) (k s : ByteArray) (q : Int) (A : Option Addr) (m c : Nat) (hx : In64 x) (hn : In64 q) (hK : askI x = 4) (hk : k.size ≤ 200) (hs : s.size ≤ 5000) :
    Calls Tryz.prog 14 #[ptrV p, .agg #[.int .i64 x, .string k, .string s, .int .i64 q, .slice A m c]] w fun e w' => e = .returned (.int .i64 (t.unsetF k).1) ∧ RfOut w rb (N + 1) r.n (t.unsetF k).2.cur w' := by
  obtain ⟨z, hz⟩ : ∃ z, w.heap.size = z := ⟨_, rfl⟩
  have bC : Blk (w.alloc (.cells #[.int .i64 x, .string k, .string s, .int .i64 q, .slice A m c] 39)) z [.int .i64 x, .string k, .string s, .int .i64 q, .slice A m c] 39 := by rw [← hz]; exact Blk.new w _ _
  have hb : Below w.heap.size w (w.alloc (.cells #[.int .i64 x, .string k, .string s, .int .i64 q, .slice A m c] 39)) := Below.of_alloc w _
  have bP : Blk (w.alloc (.cells #[.int .i64 x, .string k, .string s, .int .i64 q, .slice A m c] 39)) p [ptrV rb, .slice A2 m2 c2] 34 := (hb.block p hp.lt).trans hp
  have hask := fun W => ask_any x k s q (.slice A m c) ⟨A, m, c, rfl⟩ hx W
  rw [hK] at hask
  unfold In64 at hn
  have hzr : ¬ z = rb := fun e => by have := h.lt; omega
  replace hzr := Lib.hid hzr
  clear hx hK hp
  replace h := Lib.hid h
  replace hb := Lib.hid hb
  replace bC := Lib.hid bC
  replace bP := Lib.hid bP
  replace hz := Lib.hid hz
  replace hc := Lib.hid hc
  replace hbd := Lib.hid hbd
  unfold ptrV
  go_enter Tryz.func14, Tryz.ntmps14
  go_upto_region 1 with fail
  try rw [hz.out]
  generalize (w.alloc (.cells #[.int .i64 x, .string k, .string s, .int .i64 q, .slice A m c] 39)) = w1 at bC bP hb ⊢
  have e0 := bC.out.cell (i := 0) rfl
  have e1 := bC.out.cell (i := 1) rfl
  have e2 := bC.out.cell (i := 2) rfl
  have e3 := bC.out.cell (i := 3) rfl
  have e4 := bC.out.cell (i := 4) rfl
  have p0 : w1.cell? ⟨p, 0, none⟩ = some (ptrV rb) := bP.out.cell (i := 0) rfl
  unfold ptrV at p0
  have lp := bP.out.lt
  have lz := bC.out.lt
  have ha := hask w1
  go_wp2_with fail
  refine ha.mono ?_
  rintro e w2 ⟨rfl, hb2⟩
  have bD : Blk w2 z _ _ := (hb2.block z lz).trans bC.out
  have hbD := hb.out.trans (hb2.mono hb.out.size)
  have hS := h.out.below hbD
  clear e0 e1 e2 e3 e4 lz lp p0 ha hask bC hb hb2 h bP
  have e0 := bD.cell (i := 0) rfl
  have e1 := bD.cell (i := 1) rfl
  have e2 := bD.cell (i := 2) rfl
  have e3 := bD.cell (i := 3) rfl
  have e4 := bD.cell (i := 4) rfl
  have lz := bD.lt
  replace bD := Lib.hid bD
  replace hbD := Lib.hid hbD
  have hcl := a_unsetF hS hc.out hbd.out hN hf k (by omega)
  unfold ptrV at hcl
  replace hS := Lib.hid hS
  go_wp2_with fail
  refine hcl.mono ?_
  rintro e w3 ⟨rfl, ho⟩
  have hfin := Lib.hid (ho.behind hbD.out)
  clear hcl ho e0 e1 e2 e3 e4 lz hS hbD bD hc hbd
  go_wp2
  go_ret
  exact ⟨rfl, hfin.out⟩
set_option maxRecDepth 100000 in
set_option maxHeartbeats 8000000 in
theorem asked_5 {A2 : Option Addr} {m2 c2 : Nat} (hp : Blk w p [ptrV rb, .slice A2 m2 c2] 34) (h : RfA w rb r) (hc : Corr t.cur r) (hbd : Bd N r) (hN : N ≤ 80000) (hf : ¬ t.full) (x : Int) (k s : ByteArray) (q : Int) (A : Option Addr) (m c : Nat) (hx : In64 x) (hn : In64 q) (hK : askI x = 5) (hk : k.size ≤ 200) (hs : s.size ≤ 5000) :
    Calls Tryz.prog 14 #[ptrV p, .agg #[.int .i64 x, .string k, .string s, .int .i64 q, .slice A m c]] w fun e w' => e = .returned (.int .i64 (t.setA k s).1) ∧ RfOut w rb (N + 1) r.n (t.setA k s).2.cur w' := by
  obtain ⟨z, hz⟩ : ∃ z, w.heap.size = z := ⟨_, rfl⟩
  have bC : Blk (w.alloc (.cells #[.int .i64 x, .string k, .string s, .int .i64 q, .slice A m c] 39)) z [.int .i64 x, .string k, .string s, .int .i64 q, .slice A m c] 39 := by rw [← hz]; exact Blk.new w _ _
  have hb : Below w.heap.size w (w.alloc (.cells #[.int .i64 x, .string k, .string s, .int .i64 q, .slice A m c] 39)) := Below.of_alloc w _
  have bP : Blk (w.alloc (.cells #[.int .i64 x, .string k, .string s, .int .i64 q, .slice A m c] 39)) p [ptrV rb, .slice A2 m2 c2] 34 := (hb.block p hp.lt).trans hp
  have hask := fun W => ask_any x k s q (.slice A m c) ⟨A, m, c, rfl⟩ hx W
  rw [hK] at hask
  unfold In64 at hn
  have hzr : ¬ z = rb := fun e => by have := h.lt; omega
  replace hzr := Lib.hid hzr
  clear hx hK hp
  replace h := Lib.hid h
  replace hb := Lib.hid hb
  replace bC := Lib.hid bC
  replace bP := Lib.hid bP
  replace hz := Lib.hid hz
  replace hc := Lib.hid hc
  replace hbd := Lib.hid hbd
  unfold ptrV
  go_enter Tryz.func14, Tryz.ntmps14
  go_upto_region 1 with fail
  try rw [hz.out]
  generalize (w.alloc (.cells #[.int .i64 x, .string k, .string s, .int .i64 q, .slice A m c] 39)) = w1 at bC bP hb ⊢
  have e0 := bC.out.cell (i := 0) rfl
  have e1 := bC.out.cell (i := 1) rfl
  have e2 := bC.out.cell (i := 2) rfl
  have e3 := bC.out.cell (i := 3) rfl
  have e4 := bC.out.cell (i := 4) rfl
  have p0 : w1.cell? ⟨p, 0, none⟩ = some (ptrV rb) := bP.out.cell (i := 0) rfl
  unfold ptrV at p0
  have lp := bP.out.lt
  have lz := bC.out.lt
  have ha := hask w1
  go_wp2_with fail
  refine ha.mono ?_
  rintro e w2 ⟨rfl, hb2⟩
  have bD : Blk w2 z _ _ := (hb2.block z lz).trans bC.out
  have hbD := hb.out.trans (hb2.mono hb.out.size)
  have hS := h.out.below hbD
  clear e0 e1 e2 e3 e4 lz lp p0 ha hask bC hb hb2 h bP
  have e0 := bD.cell (i := 0) rfl
  have e1 := bD.cell (i := 1) rfl
  have e2 := bD.cell (i := 2) rfl
  have e3 := bD.cell (i := 3) rfl
  have e4 := bD.cell (i := 4) rfl
  have lz := bD.lt
  replace bD := Lib.hid bD
  replace hbD := Lib.hid hbD
  have hcl := a_setA hS hc.out hbd.out hN hf k s (by omega)
  unfold ptrV at hcl
  replace hS := Lib.hid hS
  go_wp2_with fail
  refine hcl.mono ?_
  rintro e w3 ⟨rfl, ho⟩
  have hfin := Lib.hid (ho.behind hbD.out)
  clear hcl ho e0 e1 e2 e3 e4 lz hS hbD bD hc hbd
  go_wp2
  go_ret
  exact ⟨rfl, hfin.out⟩
set_option maxRecDepth 100000 in
set_option maxHeartbeats 8000000 in
theorem asked_6 {A2 : Option Addr} {m2 c2 : Nat} (hp : Blk w p [ptrV rb, .slice A2 m2 c2] 34) (h : RfA w rb r) (hc : Corr t.cur r) (hbd : Bd N r) (hN : N ≤ 80000) (hf : ¬ t.full) (x : Int) (k s : ByteArray) (q : Int) (A : Option Addr) (m c : Nat) (hx : In64 x) (hn : In64 q) (hK : askI x = 6) (hk : k.size ≤ 200) (hs : s.size ≤ 5000) :
    Calls Tryz.prog 14 #[ptrV p, .agg #[.int .i64 x, .string k, .string s, .int .i64 q, .slice A m c]] w fun e w' => e = .returned (.int .i64 (t.unalias k).1) ∧ RfOut w rb (N + 1) r.n (t.unalias k).2.cur w' := by
  obtain ⟨z, hz⟩ : ∃ z, w.heap.size = z := ⟨_, rfl⟩
  have bC : Blk (w.alloc (.cells #[.int .i64 x, .string k, .string s, .int .i64 q, .slice A m c] 39)) z [.int .i64 x, .string k, .string s, .int .i64 q, .slice A m c] 39 := by rw [← hz]; exact Blk.new w _ _
  have hb : Below w.heap.size w (w.alloc (.cells #[.int .i64 x, .string k, .string s, .int .i64 q, .slice A m c] 39)) := Below.of_alloc w _
  have bP : Blk (w.alloc (.cells #[.int .i64 x, .string k, .string s, .int .i64 q, .slice A m c] 39)) p [ptrV rb, .slice A2 m2 c2] 34 := (hb.block p hp.lt).trans hp
  have hask := fun W => ask_any x k s q (.slice A m c) ⟨A, m, c, rfl⟩ hx W
  rw [hK] at hask
  unfold In64 at hn
  have hzr : ¬ z = rb := fun e => by have := h.lt; omega
  replace hzr := Lib.hid hzr
  clear hx hK hp
  replace h := Lib.hid h
  replace hb := Lib.hid hb
  replace bC := Lib.hid bC
  replace bP := Lib.hid bP
  replace hz := Lib.hid hz
  replace hc := Lib.hid hc
  replace hbd := Lib.hid hbd
  unfold ptrV
  go_enter Tryz.func14, Tryz.ntmps14
  go_upto_region 1 with fail
  try rw [hz.out]
  generalize (w.alloc (.cells #[.int .i64 x, .string k, .string s, .int .i64 q, .slice A m c] 39)) = w1 at bC bP hb ⊢
  have e0 := bC.out.cell (i := 0) rfl
  have e1 := bC.out.cell (i := 1) rfl
  have e2 := bC.out.cell (i := 2) rfl
  have e3 := bC.out.cell (i := 3) rfl
  have e4 := bC.out.cell (i := 4) rfl
  have p0 : w1.cell? ⟨p, 0, none⟩ = some (ptrV rb) := bP.out.cell (i := 0) rfl
  unfold ptrV at p0
  have lp := bP.out.lt
  have lz := bC.out.lt
  have ha := hask w1
  go_wp2_with fail
  refine ha.mono ?_
  rintro e w2 ⟨rfl, hb2⟩
  have bD : Blk w2 z _ _ := (hb2.block z lz).trans bC.out
  have hbD := hb.out.trans (hb2.mono hb.out.size)
  have hS := h.out.below hbD
  clear e0 e1 e2 e3 e4 lz lp p0 ha hask bC hb hb2 h bP
  have e0 := bD.cell (i := 0) rfl
  have e1 := bD.cell (i := 1) rfl
  have e2 := bD.cell (i := 2) rfl
  have e3 := bD.cell (i := 3) rfl
  have e4 := bD.cell (i := 4) rfl
  have lz := bD.lt
  replace bD := Lib.hid bD
  replace hbD := Lib.hid hbD
  have hcl := a_unalias hS hc.out hbd.out hN hf k
  unfold ptrV at hcl
  replace hS := Lib.hid hS
  go_wp2_with fail
  refine hcl.mono ?_
  rintro e w3 ⟨rfl, ho⟩
  have hfin := Lib.hid (ho.behind hbD.out)
  clear hcl ho e0 e1 e2 e3 e4 lz hS hbD bD hc hbd
  go_wp2
  go_ret
  exact ⟨rfl, hfin.out⟩
set_option maxRecDepth 100000 in
set_option maxHeartbeats 8000000 in
theorem asked_7 {A2 : Option Addr} {m2 c2 : Nat} (hp : Blk w p [ptrV rb, .slice A2 m2 c2] 34) (h : RfA w rb r) (hc : Corr t.cur r) (hbd : Bd N r) (hN : N ≤ 80000) (hf : ¬ t.full) (x : Int) (k s : ByteArray) (q : Int) (A : Option Addr) (m c : Nat) (hx : In64 x) (hn : In64 q) (hK : askI x = 7) (hk : k.size ≤ 200) (hs : s.size ≤ 5000) :
    Calls Tryz.prog 14 #[ptrV p, .agg #[.int .i64 x, .string k, .string s, .int .i64 q, .slice A m c]] w fun e w' => e = .returned (.int .i64 (t.setT k s).1) ∧ RfOut w rb (N + 1) r.n (t.setT k s).2.cur w' := by
  obtain ⟨z, hz⟩ : ∃ z, w.heap.size = z := ⟨_, rfl⟩
  have bC : Blk (w.alloc (.cells #[.int .i64 x, .string k, .string s, .int .i64 q, .slice A m c] 39)) z [.int .i64 x, .string k, .string s, .int .i64 q, .slice A m c] 39 := by rw [← hz]; exact Blk.new w _ _
  have hb : Below w.heap.size w (w.alloc (.cells #[.int .i64 x, .string k, .string s, .int .i64 q, .slice A m c] 39)) := Below.of_alloc w _
  have bP : Blk (w.alloc (.cells #[.int .i64 x, .string k, .string s, .int .i64 q, .slice A m c] 39)) p [ptrV rb, .slice A2 m2 c2] 34 := (hb.block p hp.lt).trans hp
  have hask := fun W => ask_any x k s q (.slice A m c) ⟨A, m, c, rfl⟩ hx W
  rw [hK] at hask
  unfold In64 at hn
  have hzr : ¬ z = rb := fun e => by have := h.lt; omega
  replace hzr := Lib.hid hzr
  clear hx hK hp
  replace h := Lib.hid h
  replace hb := Lib.hid hb
  replace bC := Lib.hid bC
  replace bP := Lib.hid bP
  replace hz := Lib.hid hz
  replace hc := Lib.hid hc
  replace hbd := Lib.hid hbd
  unfold ptrV
  go_enter Tryz.func14, Tryz.ntmps14
  go_upto_region 1 with fail
  try rw [hz.out]
  generalize (w.alloc (.cells #[.int .i64 x, .string k, .string s, .int .i64 q, .slice A m c] 39)) = w1 at bC bP hb ⊢
  have e0 := bC.out.cell (i := 0) rfl
  have e1 := bC.out.cell (i := 1) rfl
  have e2 := bC.out.cell (i := 2) rfl
  have e3 := bC.out.cell (i := 3) rfl
  have e4 := bC.out.cell (i := 4) rfl
  have p0 : w1.cell? ⟨p, 0, none⟩ = some (ptrV rb) := bP.out.cell (i := 0) rfl
  unfold ptrV at p0
  have lp := bP.out.lt
  have lz := bC.out.lt
  have ha := hask w1
  go_wp2_with fail
  refine ha.mono ?_
  rintro e w2 ⟨rfl, hb2⟩
  have bD : Blk w2 z _ _ := (hb2.block z lz).trans bC.out
  have hbD := hb.out.trans (hb2.mono hb.out.size)
  have hS := h.out.below hbD
  clear e0 e1 e2 e3 e4 lz lp p0 ha hask bC hb hb2 h bP
  have e0 := bD.cell (i := 0) rfl
  have e1 := bD.cell (i := 1) rfl
  have e2 := bD.cell (i := 2) rfl
  have e3 := bD.cell (i := 3) rfl
  have e4 := bD.cell (i := 4) rfl
  have lz := bD.lt
  replace bD := Lib.hid bD
  replace hbD := Lib.hid hbD
  have hcl := a_setT hS hc.out hbd.out hN hf k s
  unfold ptrV at hcl
  replace hS := Lib.hid hS
  go_wp2_with fail
  refine hcl.mono ?_
  rintro e w3 ⟨rfl, ho⟩
  have hfin := Lib.hid (ho.behind hbD.out)
  clear hcl ho e0 e1 e2 e3 e4 lz hS hbD bD hc hbd
  go_wp2
  go_ret
  exact ⟨rfl, hfin.out⟩
set_option maxRecDepth 100000 in
set_option maxHeartbeats 8000000 in
theorem asked_8 {A2 : Option Addr} {m2 c2 : Nat} (hp : Blk w p [ptrV rb, .slice A2 m2 c2] 34) (h : RfA w rb r) (hc : Corr t.cur r) (hbd : Bd N r) (hN : N ≤ 80000) (hf : ¬ t.full) (x : Int) (k s : ByteArray) (q : Int) (A : Option Addr) (m c : Nat) (hx : In64 x) (hn : In64 q) (hK : askI x = 8) (hk : k.size ≤ 200) (hs : s.size ≤ 5000) :
    Calls Tryz.prog 14 #[ptrV p, .agg #[.int .i64 x, .string k, .string s, .int .i64 q, .slice A m c]] w fun e w' => e = .returned (.int .i64 (t.untrap k).1) ∧ RfOut w rb (N + 1) r.n (t.untrap k).2.cur w' := by
  obtain ⟨z, hz⟩ : ∃ z, w.heap.size = z := ⟨_, rfl⟩
  have bC : Blk (w.alloc (.cells #[.int .i64 x, .string k, .string s, .int .i64 q, .slice A m c] 39)) z [.int .i64 x, .string k, .string s, .int .i64 q, .slice A m c] 39 := by rw [← hz]; exact Blk.new w _ _
  have hb : Below w.heap.size w (w.alloc (.cells #[.int .i64 x, .string k, .string s, .int .i64 q, .slice A m c] 39)) := Below.of_alloc w _
  have bP : Blk (w.alloc (.cells #[.int .i64 x, .string k, .string s, .int .i64 q, .slice A m c] 39)) p [ptrV rb, .slice A2 m2 c2] 34 := (hb.block p hp.lt).trans hp
  have hask := fun W => ask_any x k s q (.slice A m c) ⟨A, m, c, rfl⟩ hx W
  rw [hK] at hask
  unfold In64 at hn
  have hzr : ¬ z = rb := fun e => by have := h.lt; omega
  replace hzr := Lib.hid hzr
  clear hx hK hp
  replace h := Lib.hid h
  replace hb := Lib.hid hb
  replace bC := Lib.hid bC
  replace bP := Lib.hid bP
  replace hz := Lib.hid hz
  replace hc := Lib.hid hc
  replace hbd := Lib.hid hbd
  unfold ptrV
  go_enter Tryz.func14, Tryz.ntmps14
  go_upto_region 1 with fail
  try rw [hz.out]
  generalize (w.alloc (.cells #[.int .i64 x, .string k, .string s, .int .i64 q, .slice A m c] 39)) = w1 at bC bP hb ⊢
  have e0 := bC.out.cell (i := 0) rfl
  have e1 := bC.out.cell (i := 1) rfl
  have e2 := bC.out.cell (i := 2) rfl
  have e3 := bC.out.cell (i := 3) rfl
  have e4 := bC.out.cell (i := 4) rfl
  have p0 : w1.cell? ⟨p, 0, none⟩ = some (ptrV rb) := bP.out.cell (i := 0) rfl
  unfold ptrV at p0
  have lp := bP.out.lt
  have lz := bC.out.lt
  have ha := hask w1
  go_wp2_with fail
  refine ha.mono ?_
  rintro e w2 ⟨rfl, hb2⟩
  have bD : Blk w2 z _ _ := (hb2.block z lz).trans bC.out
  have hbD := hb.out.trans (hb2.mono hb.out.size)
  have hS := h.out.below hbD
  clear e0 e1 e2 e3 e4 lz lp p0 ha hask bC hb hb2 h bP
  have e0 := bD.cell (i := 0) rfl
  have e1 := bD.cell (i := 1) rfl
  have e2 := bD.cell (i := 2) rfl
  have e3 := bD.cell (i := 3) rfl
  have e4 := bD.cell (i := 4) rfl
  have lz := bD.lt
  replace bD := Lib.hid bD
  replace hbD := Lib.hid hbD
  have hcl := a_untrap hS hc.out hbd.out hN hf k
  unfold ptrV at hcl
  replace hS := Lib.hid hS
  go_wp2_with fail
  refine hcl.mono ?_
  rintro e w3 ⟨rfl, ho⟩
  have hfin := Lib.hid (ho.behind hbD.out)
  clear hcl ho e0 e1 e2 e3 e4 lz hS hbD bD hc hbd
  go_wp2
  go_ret
  exact ⟨rfl, hfin.out⟩
set_option maxRecDepth 100000 in
set_option maxHeartbeats 8000000 in
theorem asked_20 {A2 : Option Addr} {m2 c2 : Nat} (hp : Blk w p [ptrV rb, .slice A2 m2 c2] 34) (h : RfA w rb r) (hc : Corr t.cur r) (hbd : Bd N r) (hN : N ≤ 80000) (hf : ¬ t.full) (x : Int) (k s : ByteArray) (q : Int) (A : Option Addr) (m c : Nat) (hx : In64 x) (hn : In64 q) (hK : askI x = 2) (hk : k.size ≤ 200) (hs : s.size ≤ 5000) (h2 : q.tmod 2 = 0) (h3 : ¬ q.tmod 3 = 0) :
    Calls Tryz.prog 14 #[ptrV p, .agg #[.int .i64 x, .string k, .string s, .int .i64 q, .slice A m c]] w fun e w' => e = .returned (.int .i64 (t.markV k false false).1) ∧ RfOut w rb (N + 1) r.n (t.markV k false false).2.cur w' := by
  obtain ⟨z, hz⟩ : ∃ z, w.heap.size = z := ⟨_, rfl⟩
  have bC : Blk (w.alloc (.cells #[.int .i64 x, .string k, .string s, .int .i64 q, .slice A m c] 39)) z [.int .i64 x, .string k, .string s, .int .i64 q, .slice A m c] 39 := by rw [← hz]; exact Blk.new w _ _
  have hb : Below w.heap.size w (w.alloc (.cells #[.int .i64 x, .string k, .string s, .int .i64 q, .slice A m c] 39)) := Below.of_alloc w _
  have bP : Blk (w.alloc (.cells #[.int .i64 x, .string k, .string s, .int .i64 q, .slice A m c] 39)) p [ptrV rb, .slice A2 m2 c2] 34 := (hb.block p hp.lt).trans hp
  have hask := fun W => ask_any x k s q (.slice A m c) ⟨A, m, c, rfl⟩ hx W
  rw [hK] at hask
  unfold In64 at hn
  have hzr : ¬ z = rb := fun e => by have := h.lt; omega
  replace hzr := Lib.hid hzr
  clear hx hK hp
  replace h := Lib.hid h
  replace hb := Lib.hid hb
  replace bC := Lib.hid bC
  replace bP := Lib.hid bP
  replace hz := Lib.hid hz
  replace hc := Lib.hid hc
  replace hbd := Lib.hid hbd
  have h3b : (q.tmod 3 == 0) = false := beq_eq_false_iff_ne.2 h3
  clear h3
  unfold ptrV
  go_enter Tryz.func14, Tryz.ntmps14
  go_upto_region 1 with fail
  try rw [hz.out]
  generalize (w.alloc (.cells #[.int .i64 x, .string k, .string s, .int .i64 q, .slice A m c] 39)) = w1 at bC bP hb ⊢
  have e0 := bC.out.cell (i := 0) rfl
  have e1 := bC.out.cell (i := 1) rfl
  have e2 := bC.out.cell (i := 2) rfl
  have e3 := bC.out.cell (i := 3) rfl
  have e4 := bC.out.cell (i := 4) rfl
  have p0 : w1.cell? ⟨p, 0, none⟩ = some (ptrV rb) := bP.out.cell (i := 0) rfl
  unfold ptrV at p0
  have lp := bP.out.lt
  have lz := bC.out.lt
  have ha := hask w1
  go_wp2_with fail
  refine ha.mono ?_
  rintro e w2 ⟨rfl, hb2⟩
  have bD : Blk w2 z _ _ := (hb2.block z lz).trans bC.out
  have hbD := hb.out.trans (hb2.mono hb.out.size)
  have hS := h.out.below hbD
  clear e0 e1 e2 e3 e4 lz lp p0 ha hask bC hb hb2 h bP
  have e0 := bD.cell (i := 0) rfl
  have e1 := bD.cell (i := 1) rfl
  have e2 := bD.cell (i := 2) rfl
  have e3 := bD.cell (i := 3) rfl
  have e4 := bD.cell (i := 4) rfl
  have lz := bD.lt
  replace bD := Lib.hid bD
  replace hbD := Lib.hid hbD
  have hcl := a_mark hS hc.out hbd.out hN hf k false false (by omega)
  unfold ptrV at hcl
  replace hS := Lib.hid hS
  go_wp2_with fail
  refine hcl.mono ?_
  rintro e w3 ⟨rfl, ho⟩
  have hfin := Lib.hid (ho.behind hbD.out)
  clear hcl ho e0 e1 e2 e3 e4 lz hS hbD bD hc hbd
  go_wp2
  go_ret
  exact ⟨rfl, hfin.out⟩
set_option maxRecDepth 100000 in
set_option maxHeartbeats 8000000 in
theorem asked_21 {A2 : Option Addr} {m2 c2 : Nat} (hp : Blk w p [ptrV rb, .slice A2 m2 c2] 34) (h : RfA w rb r) (hc : Corr t.cur r) (hbd : Bd N r) (hN : N ≤ 80000) (hf : ¬ t.full) (x : Int) (k s : ByteArray) (q : Int) (A : Option Addr) (m c : Nat) (hx : In64 x) (hn : In64 q) (hK : askI x = 2) (hk : k.size ≤ 200) (hs : s.size ≤ 5000) (h2 : q.tmod 2 = 0) (h3 : q.tmod 3 = 0) :
    Calls Tryz.prog 14 #[ptrV p, .agg #[.int .i64 x, .string k, .string s, .int .i64 q, .slice A m c]] w fun e w' => e = .returned (.int .i64 (t.markV k false true).1) ∧ RfOut w rb (N + 1) r.n (t.markV k false true).2.cur w' := by
  obtain ⟨z, hz⟩ : ∃ z, w.heap.size = z := ⟨_, rfl⟩
  have bC : Blk (w.alloc (.cells #[.int .i64 x, .string k, .string s, .int .i64 q, .slice A m c] 39)) z [.int .i64 x, .string k, .string s, .int .i64 q, .slice A m c] 39 := by rw [← hz]; exact Blk.new w _ _
  have hb : Below w.heap.size w (w.alloc (.cells #[.int .i64 x, .string k, .string s, .int .i64 q, .slice A m c] 39)) := Below.of_alloc w _
  have bP : Blk (w.alloc (.cells #[.int .i64 x, .string k, .string s, .int .i64 q, .slice A m c] 39)) p [ptrV rb, .slice A2 m2 c2] 34 := (hb.block p hp.lt).trans hp
  have hask := fun W => ask_any x k s q (.slice A m c) ⟨A, m, c, rfl⟩ hx W
  rw [hK] at hask
  unfold In64 at hn
  have hzr : ¬ z = rb := fun e => by have := h.lt; omega
  replace hzr := Lib.hid hzr
  clear hx hK hp
  replace h := Lib.hid h
  replace hb := Lib.hid hb
  replace bC := Lib.hid bC
  replace bP := Lib.hid bP
  replace hz := Lib.hid hz
  replace hc := Lib.hid hc
  replace hbd := Lib.hid hbd
  unfold ptrV
  go_enter Tryz.func14, Tryz.ntmps14
  go_upto_region 1 with fail
  try rw [hz.out]
  generalize (w.alloc (.cells #[.int .i64 x, .string k, .string s, .int .i64 q, .slice A m c] 39)) = w1 at bC bP hb ⊢
  have e0 := bC.out.cell (i := 0) rfl
  have e1 := bC.out.cell (i := 1) rfl
  have e2 := bC.out.cell (i := 2) rfl
  have e3 := bC.out.cell (i := 3) rfl
  have e4 := bC.out.cell (i := 4) rfl
  have p0 : w1.cell? ⟨p, 0, none⟩ = some (ptrV rb) := bP.out.cell (i := 0) rfl
  unfold ptrV at p0
  have lp := bP.out.lt
  have lz := bC.out.lt
  have ha := hask w1
  go_wp2_with fail
  refine ha.mono ?_
  rintro e w2 ⟨rfl, hb2⟩
  have bD : Blk w2 z _ _ := (hb2.block z lz).trans bC.out
  have hbD := hb.out.trans (hb2.mono hb.out.size)
  have hS := h.out.below hbD
  clear e0 e1 e2 e3 e4 lz lp p0 ha hask bC hb hb2 h bP
  have e0 := bD.cell (i := 0) rfl
  have e1 := bD.cell (i := 1) rfl
  have e2 := bD.cell (i := 2) rfl
  have e3 := bD.cell (i := 3) rfl
  have e4 := bD.cell (i := 4) rfl
  have lz := bD.lt
  replace bD := Lib.hid bD
  replace hbD := Lib.hid hbD
  have hcl := a_mark hS hc.out hbd.out hN hf k false true (by omega)
  unfold ptrV at hcl
  replace hS := Lib.hid hS
  go_wp2_with fail
  refine hcl.mono ?_
  rintro e w3 ⟨rfl, ho⟩
  have hfin := Lib.hid (ho.behind hbD.out)
  clear hcl ho e0 e1 e2 e3 e4 lz hS hbD bD hc hbd
  go_wp2
  go_ret
  exact ⟨rfl, hfin.out⟩
set_option maxRecDepth 100000 in
set_option maxHeartbeats 8000000 in
theorem asked_22 {A2 : Option Addr} {m2 c2 : Nat} (hp : Blk w p [ptrV rb, .slice A2 m2 c2] 34) (h : RfA w rb r) (hc : Corr t.cur r) (hbd : Bd N r) (hN : N ≤ 80000) (hf : ¬ t.full) (x : Int) (k s : ByteArray) (q : Int) (A : Option Addr) (m c : Nat) (hx : In64 x) (hn : In64 q) (hK : askI x = 2) (hk : k.size ≤ 200) (hs : s.size ≤ 5000) (h2 : ¬ q.tmod 2 = 0) (h3 : ¬ q.tmod 3 = 0) :
    Calls Tryz.prog 14 #[ptrV p, .agg #[.int .i64 x, .string k, .string s, .int .i64 q, .slice A m c]] w fun e w' => e = .returned (.int .i64 (t.markV k true false).1) ∧ RfOut w rb (N + 1) r.n (t.markV k true false).2.cur w' := by
  obtain ⟨z, hz⟩ : ∃ z, w.heap.size = z := ⟨_, rfl⟩
  have bC : Blk (w.alloc (.cells #[.int .i64 x, .string k, .string s, .int .i64 q, .slice A m c] 39)) z [.int .i64 x, .string k, .string s, .int .i64 q, .slice A m c] 39 := by rw [← hz]; exact Blk.new w _ _
  have hb : Below w.heap.size w (w.alloc (.cells #[.int .i64 x, .string k, .string s, .int .i64 q, .slice A m c] 39)) := Below.of_alloc w _
  have bP : Blk (w.alloc (.cells #[.int .i64 x, .string k, .string s, .int .i64 q, .slice A m c] 39)) p [ptrV rb, .slice A2 m2 c2] 34 := (hb.block p hp.lt).trans hp
  have hask := fun W => ask_any x k s q (.slice A m c) ⟨A, m, c, rfl⟩ hx W
  rw [hK] at hask
  unfold In64 at hn
  have hzr : ¬ z = rb := fun e => by have := h.lt; omega
  replace hzr := Lib.hid hzr
  clear hx hK hp
  replace h := Lib.hid h
  replace hb := Lib.hid hb
  replace bC := Lib.hid bC
  replace bP := Lib.hid bP
  replace hz := Lib.hid hz
  replace hc := Lib.hid hc
  replace hbd := Lib.hid hbd
  have h2b : (q.tmod 2 != 0) = true := bne_iff_ne.2 h2
  clear h2
  have h3b : (q.tmod 3 == 0) = false := beq_eq_false_iff_ne.2 h3
  clear h3
  unfold ptrV
  go_enter Tryz.func14, Tryz.ntmps14
  go_upto_region 1 with fail
  try rw [hz.out]
  generalize (w.alloc (.cells #[.int .i64 x, .string k, .string s, .int .i64 q, .slice A m c] 39)) = w1 at bC bP hb ⊢
  have e0 := bC.out.cell (i := 0) rfl
  have e1 := bC.out.cell (i := 1) rfl
  have e2 := bC.out.cell (i := 2) rfl
  have e3 := bC.out.cell (i := 3) rfl
  have e4 := bC.out.cell (i := 4) rfl
  have p0 : w1.cell? ⟨p, 0, none⟩ = some (ptrV rb) := bP.out.cell (i := 0) rfl
  unfold ptrV at p0
  have lp := bP.out.lt
  have lz := bC.out.lt
  have ha := hask w1
  go_wp2_with fail
  refine ha.mono ?_
  rintro e w2 ⟨rfl, hb2⟩
  have bD : Blk w2 z _ _ := (hb2.block z lz).trans bC.out
  have hbD := hb.out.trans (hb2.mono hb.out.size)
  have hS := h.out.below hbD
  clear e0 e1 e2 e3 e4 lz lp p0 ha hask bC hb hb2 h bP
  have e0 := bD.cell (i := 0) rfl
  have e1 := bD.cell (i := 1) rfl
  have e2 := bD.cell (i := 2) rfl
  have e3 := bD.cell (i := 3) rfl
  have e4 := bD.cell (i := 4) rfl
  have lz := bD.lt
  replace bD := Lib.hid bD
  replace hbD := Lib.hid hbD
  have hcl := a_mark hS hc.out hbd.out hN hf k true false (by omega)
  unfold ptrV at hcl
  replace hS := Lib.hid hS
  go_wp2_with fail
  refine hcl.mono ?_
  rintro e w3 ⟨rfl, ho⟩
  have hfin := Lib.hid (ho.behind hbD.out)
  clear hcl ho e0 e1 e2 e3 e4 lz hS hbD bD hc hbd
  go_wp2
  go_ret
  exact ⟨rfl, hfin.out⟩
set_option maxRecDepth 100000 in
set_option maxHeartbeats 8000000 in
theorem asked_23 {A2 : Option Addr} {m2 c2 : Nat} (hp : Blk w p [ptrV rb, .slice A2 m2 c2] 34) (h : RfA w rb r) (hc : Corr t.cur r) (hbd : Bd N r) (hN : N ≤ 80000) (hf : ¬ t.full) (x : Int) (k s : ByteArray) (q : Int) (A : Option Addr) (m c : Nat) (hx : In64 x) (hn : In64 q) (hK : askI x = 2) (hk : k.size ≤ 200) (hs : s.size ≤ 5000) (h2 : ¬ q.tmod 2 = 0) (h3 : q.tmod 3 = 0) :
    Calls Tryz.prog 14 #[ptrV p, .agg #[.int .i64 x, .string k, .string s, .int .i64 q, .slice A m c]] w fun e w' => e = .returned (.int .i64 (t.markV k true true).1) ∧ RfOut w rb (N + 1) r.n (t.markV k true true).2.cur w' := by
  obtain ⟨z, hz⟩ : ∃ z, w.heap.size = z := ⟨_, rfl⟩
  have bC : Blk (w.alloc (.cells #[.int .i64 x, .string k, .string s, .int .i64 q, .slice A m c] 39)) z [.int .i64 x, .string k, .string s, .int .i64 q, .slice A m c] 39 := by rw [← hz]; exact Blk.new w _ _
  have hb : Below w.heap.size w (w.alloc (.cells #[.int .i64 x, .string k, .string s, .int .i64 q, .slice A m c] 39)) := Below.of_alloc w _
  have bP : Blk (w.alloc (.cells #[.int .i64 x, .string k, .string s, .int .i64 q, .slice A m c] 39)) p [ptrV rb, .slice A2 m2 c2] 34 := (hb.block p hp.lt).trans hp
  have hask := fun W => ask_any x k s q (.slice A m c) ⟨A, m, c, rfl⟩ hx W
  rw [hK] at hask
  unfold In64 at hn
  have hzr : ¬ z = rb := fun e => by have := h.lt; omega
  replace hzr := Lib.hid hzr
  clear hx hK hp
  replace h := Lib.hid h
  replace hb := Lib.hid hb
  replace bC := Lib.hid bC
  replace bP := Lib.hid bP
  replace hz := Lib.hid hz
  replace hc := Lib.hid hc
  replace hbd := Lib.hid hbd
  have h2b : (q.tmod 2 != 0) = true := bne_iff_ne.2 h2
  clear h2
  unfold ptrV
  go_enter Tryz.func14, Tryz.ntmps14
  go_upto_region 1 with fail
  try rw [hz.out]
  generalize (w.alloc (.cells #[.int .i64 x, .string k, .string s, .int .i64 q, .slice A m c] 39)) = w1 at bC bP hb ⊢
  have e0 := bC.out.cell (i := 0) rfl
  have e1 := bC.out.cell (i := 1) rfl
  have e2 := bC.out.cell (i := 2) rfl
  have e3 := bC.out.cell (i := 3) rfl
  have e4 := bC.out.cell (i := 4) rfl
  have p0 : w1.cell? ⟨p, 0, none⟩ = some (ptrV rb) := bP.out.cell (i := 0) rfl
  unfold ptrV at p0
  have lp := bP.out.lt
  have lz := bC.out.lt
  have ha := hask w1
  go_wp2_with fail
  refine ha.mono ?_
  rintro e w2 ⟨rfl, hb2⟩
  have bD : Blk w2 z _ _ := (hb2.block z lz).trans bC.out
  have hbD := hb.out.trans (hb2.mono hb.out.size)
  have hS := h.out.below hbD
  clear e0 e1 e2 e3 e4 lz lp p0 ha hask bC hb hb2 h bP
  have e0 := bD.cell (i := 0) rfl
  have e1 := bD.cell (i := 1) rfl
  have e2 := bD.cell (i := 2) rfl
  have e3 := bD.cell (i := 3) rfl
  have e4 := bD.cell (i := 4) rfl
  have lz := bD.lt
  replace bD := Lib.hid bD
  replace hbD := Lib.hid hbD
  have hcl := a_mark hS hc.out hbd.out hN hf k true true (by omega)
  unfold ptrV at hcl
  replace hS := Lib.hid hS
  go_wp2_with fail
  refine hcl.mono ?_
  rintro e w3 ⟨rfl, ho⟩
  have hfin := Lib.hid (ho.behind hbD.out)
  clear hcl ho e0 e1 e2 e3 e4 lz hS hbD bD hc hbd
  go_wp2
  go_ret
  exact ⟨rfl, hfin.out⟩
set_option maxRecDepth 100000 in
set_option maxHeartbeats 8000000 in
theorem asked_14 {A2 : Option Addr} {m2 c2 : Nat} (hp : Blk w p [ptrV rb, .slice A2 m2 c2] 34) (h : RfA w rb r) (hc : Corr t.cur r) (hbd : Bd N r) (hN : N ≤ 80000) (hf : ¬ t.full) (x : Int) (k s : ByteArray) (q : Int) (A : Option Addr) (m c : Nat) (hx : In64 x) (hn : In64 q) (hK : askI x = 14) (hk : k.size ≤ 200) (hs : s.size ≤ 5000) (hm : m ≤ 1100) :
    Calls Tryz.prog 14 #[ptrV p, .agg #[.int .i64 x, .string k, .string s, .int .i64 q, .slice A m c]] w fun e w' => e = .returned (.int .i64 (t.setC q (m : Int)).1) ∧ RfOut w rb (N + 1) r.n (t.setC q (m : Int)).2.cur w' := by
  obtain ⟨z, hz⟩ : ∃ z, w.heap.size = z := ⟨_, rfl⟩
  have bC : Blk (w.alloc (.cells #[.int .i64 x, .string k, .string s, .int .i64 q, .slice A m c] 39)) z [.int .i64 x, .string k, .string s, .int .i64 q, .slice A m c] 39 := by rw [← hz]; exact Blk.new w _ _
  have hb : Below w.heap.size w (w.alloc (.cells #[.int .i64 x, .string k, .string s, .int .i64 q, .slice A m c] 39)) := Below.of_alloc w _
  have bP : Blk (w.alloc (.cells #[.int .i64 x, .string k, .string s, .int .i64 q, .slice A m c] 39)) p [ptrV rb, .slice A2 m2 c2] 34 := (hb.block p hp.lt).trans hp
  have hask := fun W => ask_any x k s q (.slice A m c) ⟨A, m, c, rfl⟩ hx W
  rw [hK] at hask
  unfold In64 at hn
  have hzr : ¬ z = rb := fun e => by have := h.lt; omega
  replace hzr := Lib.hid hzr
  clear hx hK hp
  replace h := Lib.hid h
  replace hb := Lib.hid hb
  replace bC := Lib.hid bC
  replace bP := Lib.hid bP
  replace hz := Lib.hid hz
  replace hc := Lib.hid hc
  replace hbd := Lib.hid hbd
  unfold ptrV
  go_enter Tryz.func14, Tryz.ntmps14
  go_upto_region 1 with fail
  try rw [hz.out]
  generalize (w.alloc (.cells #[.int .i64 x, .string k, .string s, .int .i64 q, .slice A m c] 39)) = w1 at bC bP hb ⊢
  have e0 := bC.out.cell (i := 0) rfl
  have e1 := bC.out.cell (i := 1) rfl
  have e2 := bC.out.cell (i := 2) rfl
  have e3 := bC.out.cell (i := 3) rfl
  have e4 := bC.out.cell (i := 4) rfl
  have p0 : w1.cell? ⟨p, 0, none⟩ = some (ptrV rb) := bP.out.cell (i := 0) rfl
  unfold ptrV at p0
  have lp := bP.out.lt
  have lz := bC.out.lt
  have ha := hask w1
  go_wp2_with fail
  refine ha.mono ?_
  rintro e w2 ⟨rfl, hb2⟩
  have bD : Blk w2 z _ _ := (hb2.block z lz).trans bC.out
  have hbD := hb.out.trans (hb2.mono hb.out.size)
  have hS := h.out.below hbD
  clear e0 e1 e2 e3 e4 lz lp p0 ha hask bC hb hb2 h bP
  have e0 := bD.cell (i := 0) rfl
  have e1 := bD.cell (i := 1) rfl
  have e2 := bD.cell (i := 2) rfl
  have e3 := bD.cell (i := 3) rfl
  have e4 := bD.cell (i := 4) rfl
  have lz := bD.lt
  replace bD := Lib.hid bD
  replace hbD := Lib.hid hbD
  have hcl := a_cursor hS hc.out hbd.out hf q (m : Int)
  unfold ptrV at hcl
  replace hS := Lib.hid hS
  go_wp2_with fail
  refine hcl.mono ?_
  rintro e w3 ⟨rfl, ho⟩
  have hfin := Lib.hid (ho.behind hbD.out)
  clear hcl ho e0 e1 e2 e3 e4 lz hS hbD bD hc hbd
  go_wp2
  go_ret
  exact ⟨rfl, hfin.out⟩
set_option maxRecDepth 100000 in
set_option maxHeartbeats 8000000 in
theorem asked_13n {A2 : Option Addr} {m2 c2 : Nat} (hp : Blk w p [ptrV rb, .slice A2 m2 c2] 34) (h : RfA w rb r) (hc : Corr t.cur r) (hbd : Bd N r) (hN : N ≤ 80000) (hf : ¬ t.full) (x : Int) (k s : ByteArray) (q : Int) (A : Option Addr) (m c : Nat) (hx : In64 x) (hn : In64 q) (hK : askI x = 13) (hk : k.size ≤ 200) (hs : s.size ≤ 5000) (hno : q < 0 ∨ (t.cur.g.n : Int) < q) :
    Calls Tryz.prog 14 #[ptrV p, .agg #[.int .i64 x, .string k, .string s, .int .i64 q, .slice A m c]] w fun e w' => e = .returned (.int .i64 1) ∧ RfOut w rb (N + 1) r.n t.cur w' := by
  obtain ⟨z, hz⟩ : ∃ z, w.heap.size = z := ⟨_, rfl⟩
  have bC : Blk (w.alloc (.cells #[.int .i64 x, .string k, .string s, .int .i64 q, .slice A m c] 39)) z [.int .i64 x, .string k, .string s, .int .i64 q, .slice A m c] 39 := by rw [← hz]; exact Blk.new w _ _
  have hb : Below w.heap.size w (w.alloc (.cells #[.int .i64 x, .string k, .string s, .int .i64 q, .slice A m c] 39)) := Below.of_alloc w _
  have bP : Blk (w.alloc (.cells #[.int .i64 x, .string k, .string s, .int .i64 q, .slice A m c] 39)) p [ptrV rb, .slice A2 m2 c2] 34 := (hb.block p hp.lt).trans hp
  have hask := fun W => ask_any x k s q (.slice A m c) ⟨A, m, c, rfl⟩ hx W
  rw [hK] at hask
  unfold In64 at hn
  have hzr : ¬ z = rb := fun e => by have := h.lt; omega
  replace hzr := Lib.hid hzr
  clear hx hK hp
  replace h := Lib.hid h
  replace hb := Lib.hid hb
  replace bC := Lib.hid bC
  replace bP := Lib.hid bP
  replace hz := Lib.hid hz
  replace hc := Lib.hid hc
  replace hbd := Lib.hid hbd
  unfold ptrV
  go_enter Tryz.func14, Tryz.ntmps14
  go_upto_region 1 with fail
  try rw [hz.out]
  generalize (w.alloc (.cells #[.int .i64 x, .string k, .string s, .int .i64 q, .slice A m c] 39)) = w1 at bC bP hb ⊢
  have e0 := bC.out.cell (i := 0) rfl
  have e1 := bC.out.cell (i := 1) rfl
  have e2 := bC.out.cell (i := 2) rfl
  have e3 := bC.out.cell (i := 3) rfl
  have e4 := bC.out.cell (i := 4) rfl
  have p0 : w1.cell? ⟨p, 0, none⟩ = some (ptrV rb) := bP.out.cell (i := 0) rfl
  unfold ptrV at p0
  have lp := bP.out.lt
  have lz := bC.out.lt
  have ha := hask w1
  go_wp2_with fail
  refine ha.mono ?_
  rintro e w2 ⟨rfl, hb2⟩
  have bD : Blk w2 z _ _ := (hb2.block z lz).trans bC.out
  have hbD := hb.out.trans (hb2.mono hb.out.size)
  have hS := h.out.below hbD
  clear e0 e1 e2 e3 e4 lz lp p0 ha hask bC hb hb2 h bP
  have e0 := bD.cell (i := 0) rfl
  have e1 := bD.cell (i := 1) rfl
  have e2 := bD.cell (i := 2) rfl
  have e3 := bD.cell (i := 3) rfl
  have e4 := bD.cell (i := 4) rfl
  have lz := bD.lt
  replace bD := Lib.hid bD
  replace hbD := Lib.hid hbD
  have hcl := a_shiftN hS hc.out hbd.out q hno
  unfold ptrV at hcl
  replace hS := Lib.hid hS
  clear hno
  go_wp2_with fail
  refine hcl.mono ?_
  rintro e w3 ⟨rfl, ho⟩
  have hfin := Lib.hid (ho.behind hbD.out)
  clear hcl ho e0 e1 e2 e3 e4 lz hS hbD bD hc hbd
  go_wp2
  go_ret
  exact ⟨rfl, hfin.out⟩
set_option maxRecDepth 100000 in
set_option maxHeartbeats 8000000 in
theorem asked_13 {A2 : Option Addr} {m2 c2 : Nat} (hp : Blk w p [ptrV rb, .slice A2 m2 c2] 34) (h : RfA w rb r) (hc : Corr t.cur r) (hbd : Bd N r) (hN : N ≤ 80000) (hf : ¬ t.full) (x : Int) (k s : ByteArray) (q : Int) (A : Option Addr) (m c : Nat) (hx : In64 x) (hn : In64 q) (hK : askI x = 13) (hk : k.size ≤ 200) (hs : s.size ≤ 5000) (hq0 : ¬ q < 0) (hq1 : ¬ (t.cur.g.n : Int) < q) (A3 : Option Addr) (c3 : Nat) :
    Calls Tryz.prog 14 #[ptrV p, .agg #[.int .i64 x, .string k, .string s, .int .i64 q, .slice A m c]] w fun e w' => e = .returned (.int .i64 (t.setg ⟨A3, t.cur.g.n - q.toNat, c3, t.cur.g.a, t.cur.g.i, t.cur.g.l.drop q.toNat⟩).1) ∧ RfOut w rb (N + 1) r.n (t.setg ⟨A3, t.cur.g.n - q.toNat, c3, t.cur.g.a, t.cur.g.i, t.cur.g.l.drop q.toNat⟩).2.cur w' := by
  obtain ⟨z, hz⟩ : ∃ z, w.heap.size = z := ⟨_, rfl⟩
  have bC : Blk (w.alloc (.cells #[.int .i64 x, .string k, .string s, .int .i64 q, .slice A m c] 39)) z [.int .i64 x, .string k, .string s, .int .i64 q, .slice A m c] 39 := by rw [← hz]; exact Blk.new w _ _
  have hb : Below w.heap.size w (w.alloc (.cells #[.int .i64 x, .string k, .string s, .int .i64 q, .slice A m c] 39)) := Below.of_alloc w _
  have bP : Blk (w.alloc (.cells #[.int .i64 x, .string k, .string s, .int .i64 q, .slice A m c] 39)) p [ptrV rb, .slice A2 m2 c2] 34 := (hb.block p hp.lt).trans hp
  have hask := fun W => ask_any x k s q (.slice A m c) ⟨A, m, c, rfl⟩ hx W
  rw [hK] at hask
  unfold In64 at hn
  have hzr : ¬ z = rb := fun e => by have := h.lt; omega
  replace hzr := Lib.hid hzr
  clear hx hK hp
  replace h := Lib.hid h
  replace hb := Lib.hid hb
  replace bC := Lib.hid bC
  replace bP := Lib.hid bP
  replace hz := Lib.hid hz
  replace hc := Lib.hid hc
  replace hbd := Lib.hid hbd
  unfold ptrV
  go_enter Tryz.func14, Tryz.ntmps14
  go_upto_region 1 with fail
  try rw [hz.out]
  generalize (w.alloc (.cells #[.int .i64 x, .string k, .string s, .int .i64 q, .slice A m c] 39)) = w1 at bC bP hb ⊢
  have e0 := bC.out.cell (i := 0) rfl
  have e1 := bC.out.cell (i := 1) rfl
  have e2 := bC.out.cell (i := 2) rfl
  have e3 := bC.out.cell (i := 3) rfl
  have e4 := bC.out.cell (i := 4) rfl
  have p0 : w1.cell? ⟨p, 0, none⟩ = some (ptrV rb) := bP.out.cell (i := 0) rfl
  unfold ptrV at p0
  have lp := bP.out.lt
  have lz := bC.out.lt
  have ha := hask w1
  go_wp2_with fail
  refine ha.mono ?_
  rintro e w2 ⟨rfl, hb2⟩
  have bD : Blk w2 z _ _ := (hb2.block z lz).trans bC.out
  have hbD := hb.out.trans (hb2.mono hb.out.size)
  have hS := h.out.below hbD
  clear e0 e1 e2 e3 e4 lz lp p0 ha hask bC hb hb2 h bP
  have e0 := bD.cell (i := 0) rfl
  have e1 := bD.cell (i := 1) rfl
  have e2 := bD.cell (i := 2) rfl
  have e3 := bD.cell (i := 3) rfl
  have e4 := bD.cell (i := 4) rfl
  have lz := bD.lt
  replace bD := Lib.hid bD
  replace hbD := Lib.hid hbD
  have hcl := a_shift hS hc.out hbd.out hf q (by omega) (by omega) A3 c3
  unfold ptrV at hcl
  replace hS := Lib.hid hS
  go_wp2_with fail
  refine hcl.mono ?_
  rintro e w3 ⟨rfl, ho⟩
  have hfin := Lib.hid (ho.behind hbD.out)
  clear hcl ho e0 e1 e2 e3 e4 lz hS hbD bD hc hbd
  go_wp2
  go_ret
  exact ⟨rfl, hfin.out⟩
set_option maxRecDepth 100000 in
set_option maxHeartbeats 8000000 in
theorem asked_12n {A2 : Option Addr} {m2 c2 : Nat} (hp : Blk w p [ptrV rb, .slice A2 m2 c2] 34) (h : RfA w rb r) (hc : Corr t.cur r) (hbd : Bd N r) (hN : N ≤ 80000) (hf : ¬ t.full) (x : Int) (k s : ByteArray) (q : Int) (A : Option Addr) (m c : Nat) (hx : In64 x) (hn : In64 q) (hK : askI x = 12) (hk : k.size ≤ 200) (hs : s.size ≤ 5000) {l : List ByteArray} (htx : Txs w A m c l) (hl : ∀ s ∈ l, s.size ≤ 1000000) (hno : 1000 < m ∨ greatL l = true) :
    Calls Tryz.prog 14 #[ptrV p, .agg #[.int .i64 x, .string k, .string s, .int .i64 q, .slice A m c]] w fun e w' => e = .returned (.int .i64 (Tg.setArgsE m l)) ∧ RfOut w rb (N + 1) r.n t.cur w' := by
  obtain ⟨z, hz⟩ : ∃ z, w.heap.size = z := ⟨_, rfl⟩
  have bC : Blk (w.alloc (.cells #[.int .i64 x, .string k, .string s, .int .i64 q, .slice A m c] 39)) z [.int .i64 x, .string k, .string s, .int .i64 q, .slice A m c] 39 := by rw [← hz]; exact Blk.new w _ _
  have hb : Below w.heap.size w (w.alloc (.cells #[.int .i64 x, .string k, .string s, .int .i64 q, .slice A m c] 39)) := Below.of_alloc w _
  have bP : Blk (w.alloc (.cells #[.int .i64 x, .string k, .string s, .int .i64 q, .slice A m c] 39)) p [ptrV rb, .slice A2 m2 c2] 34 := (hb.block p hp.lt).trans hp
  have hask := fun W => ask_any x k s q (.slice A m c) ⟨A, m, c, rfl⟩ hx W
  rw [hK] at hask
  unfold In64 at hn
  have hzr : ¬ z = rb := fun e => by have := h.lt; omega
  replace hzr := Lib.hid hzr
  clear hx hK hp
  replace h := Lib.hid h
  replace hb := Lib.hid hb
  replace bC := Lib.hid bC
  replace bP := Lib.hid bP
  replace hz := Lib.hid hz
  replace hc := Lib.hid hc
  replace hbd := Lib.hid hbd
  replace htx := Lib.hid htx
  unfold ptrV
  go_enter Tryz.func14, Tryz.ntmps14
  go_upto_region 1 with fail
  try rw [hz.out]
  generalize (w.alloc (.cells #[.int .i64 x, .string k, .string s, .int .i64 q, .slice A m c] 39)) = w1 at bC bP hb ⊢
  have e0 := bC.out.cell (i := 0) rfl
  have e1 := bC.out.cell (i := 1) rfl
  have e2 := bC.out.cell (i := 2) rfl
  have e3 := bC.out.cell (i := 3) rfl
  have e4 := bC.out.cell (i := 4) rfl
  have p0 : w1.cell? ⟨p, 0, none⟩ = some (ptrV rb) := bP.out.cell (i := 0) rfl
  unfold ptrV at p0
  have lp := bP.out.lt
  have lz := bC.out.lt
  have ha := hask w1
  go_wp2_with fail
  refine ha.mono ?_
  rintro e w2 ⟨rfl, hb2⟩
  have bD : Blk w2 z _ _ := (hb2.block z lz).trans bC.out
  have hbD := hb.out.trans (hb2.mono hb.out.size)
  have hS := h.out.below hbD
  clear e0 e1 e2 e3 e4 lz lp p0 ha hask bC hb hb2 h bP
  have e0 := bD.cell (i := 0) rfl
  have e1 := bD.cell (i := 1) rfl
  have e2 := bD.cell (i := 2) rfl
  have e3 := bD.cell (i := 3) rfl
  have e4 := bD.cell (i := 4) rfl
  have lz := bD.lt
  replace bD := Lib.hid bD
  replace hbD := Lib.hid hbD
  have hcl := a_argsN hS hc.out hbd.out (htx.out.below hbD.out) hl hno
  unfold ptrV at hcl
  replace hS := Lib.hid hS
  clear hno hl htx
  go_wp2_with fail
  refine hcl.mono ?_
  rintro e w3 ⟨rfl, ho⟩
  have hfin := Lib.hid (ho.behind hbD.out)
  clear hcl ho e0 e1 e2 e3 e4 lz hS hbD bD hc hbd
  go_wp2
  go_ret
  exact ⟨rfl, hfin.out⟩
set_option maxRecDepth 100000 in
set_option maxHeartbeats 8000000 in
theorem asked_12 {A2 : Option Addr} {m2 c2 : Nat} (hp : Blk w p [ptrV rb, .slice A2 m2 c2] 34) (h : RfA w rb r) (hc : Corr t.cur r) (hbd : Bd N r) (hN : N ≤ 80000) (hf : ¬ t.full) (x : Int) (k s : ByteArray) (q : Int) (A : Option Addr) (m c : Nat) (hx : In64 x) (hn : In64 q) (hK : askI x = 12) (hk : k.size ≤ 200) (hs : s.size ≤ 5000) {l : List ByteArray} (htx : Txs w A m c l) (hl : ∀ s ∈ l, s.size ≤ 1000000) (hm1 : ¬ 1000 < m) (hg : greatL l = false) (A3 : Option Addr) (c3 : Nat) :
    Calls Tryz.prog 14 #[ptrV p, .agg #[.int .i64 x, .string k, .string s, .int .i64 q, .slice A m c]] w fun e w' => e = .returned (.int .i64 (t.setg ⟨A3, m, c3, 1, 0, l⟩).1) ∧ RfOut w rb (N + 1) r.n (t.setg ⟨A3, m, c3, 1, 0, l⟩).2.cur w' := by
  obtain ⟨z, hz⟩ : ∃ z, w.heap.size = z := ⟨_, rfl⟩
  have bC : Blk (w.alloc (.cells #[.int .i64 x, .string k, .string s, .int .i64 q, .slice A m c] 39)) z [.int .i64 x, .string k, .string s, .int .i64 q, .slice A m c] 39 := by rw [← hz]; exact Blk.new w _ _
  have hb : Below w.heap.size w (w.alloc (.cells #[.int .i64 x, .string k, .string s, .int .i64 q, .slice A m c] 39)) := Below.of_alloc w _
  have bP : Blk (w.alloc (.cells #[.int .i64 x, .string k, .string s, .int .i64 q, .slice A m c] 39)) p [ptrV rb, .slice A2 m2 c2] 34 := (hb.block p hp.lt).trans hp
  have hask := fun W => ask_any x k s q (.slice A m c) ⟨A, m, c, rfl⟩ hx W
  rw [hK] at hask
  unfold In64 at hn
  have hzr : ¬ z = rb := fun e => by have := h.lt; omega
  replace hzr := Lib.hid hzr
  clear hx hK hp
  replace h := Lib.hid h
  replace hb := Lib.hid hb
  replace bC := Lib.hid bC
  replace bP := Lib.hid bP
  replace hz := Lib.hid hz
  replace hc := Lib.hid hc
  replace hbd := Lib.hid hbd
  replace htx := Lib.hid htx
  unfold ptrV
  go_enter Tryz.func14, Tryz.ntmps14
  go_upto_region 1 with fail
  try rw [hz.out]
  generalize (w.alloc (.cells #[.int .i64 x, .string k, .string s, .int .i64 q, .slice A m c] 39)) = w1 at bC bP hb ⊢
  have e0 := bC.out.cell (i := 0) rfl
  have e1 := bC.out.cell (i := 1) rfl
  have e2 := bC.out.cell (i := 2) rfl
  have e3 := bC.out.cell (i := 3) rfl
  have e4 := bC.out.cell (i := 4) rfl
  have p0 : w1.cell? ⟨p, 0, none⟩ = some (ptrV rb) := bP.out.cell (i := 0) rfl
  unfold ptrV at p0
  have lp := bP.out.lt
  have lz := bC.out.lt
  have ha := hask w1
  go_wp2_with fail
  refine ha.mono ?_
  rintro e w2 ⟨rfl, hb2⟩
  have bD : Blk w2 z _ _ := (hb2.block z lz).trans bC.out
  have hbD := hb.out.trans (hb2.mono hb.out.size)
  have hS := h.out.below hbD
  clear e0 e1 e2 e3 e4 lz lp p0 ha hask bC hb hb2 h bP
  have e0 := bD.cell (i := 0) rfl
  have e1 := bD.cell (i := 1) rfl
  have e2 := bD.cell (i := 2) rfl
  have e3 := bD.cell (i := 3) rfl
  have e4 := bD.cell (i := 4) rfl
  have lz := bD.lt
  replace bD := Lib.hid bD
  replace hbD := Lib.hid hbD
  have hcl := a_args hS hc.out hbd.out hf (htx.out.below hbD.out) hl hm1 hg A3 c3
  unfold ptrV at hcl
  replace hS := Lib.hid hS
  clear hm1 hl htx hg
  go_wp2_with fail
  refine hcl.mono ?_
  rintro e w3 ⟨rfl, ho⟩
  have hfin := Lib.hid (ho.behind hbD.out)
  clear hcl ho e0 e1 e2 e3 e4 lz hS hbD bD hc hbd
  go_wp2
  go_ret
  exact ⟨rfl, hfin.out⟩
set_option maxRecDepth 100000 in
set_option maxHeartbeats 8000000 in
theorem asked_15 {A2 : Option Addr} {m2 c2 : Nat} (hp : Blk w p [ptrV rb, .slice A2 m2 c2] 34) (h : RfA w rb r) (hc : Corr t.cur r) (hbd : Bd N r) (hN : N ≤ 80000) (hf : ¬ t.full) (x : Int) (k s : ByteArray) (q : Int) (A : Option Addr) (m c : Nat) (hx : In64 x) (hn : In64 q) (hK : askI x = 15) (hk : k.size ≤ 200) (hs : s.size ≤ 5000) :
    Calls Tryz.prog 14 #[ptrV p, .agg #[.int .i64 x, .string k, .string s, .int .i64 q, .slice A m c]] w fun e w' => e = .returned (.int .i64 0) ∧ RfOut w rb (N + 1) (q.tmod 256 % 256) t.cur w' := by
  obtain ⟨z, hz⟩ : ∃ z, w.heap.size = z := ⟨_, rfl⟩
  have bC : Blk (w.alloc (.cells #[.int .i64 x, .string k, .string s, .int .i64 q, .slice A m c] 39)) z [.int .i64 x, .string k, .string s, .int .i64 q, .slice A m c] 39 := by rw [← hz]; exact Blk.new w _ _
  have hb : Below w.heap.size w (w.alloc (.cells #[.int .i64 x, .string k, .string s, .int .i64 q, .slice A m c] 39)) := Below.of_alloc w _
  have bP : Blk (w.alloc (.cells #[.int .i64 x, .string k, .string s, .int .i64 q, .slice A m c] 39)) p [ptrV rb, .slice A2 m2 c2] 34 := (hb.block p hp.lt).trans hp
  have hask := fun W => ask_any x k s q (.slice A m c) ⟨A, m, c, rfl⟩ hx W
  rw [hK] at hask
  unfold In64 at hn
  have hzr : ¬ z = rb := fun e => by have := h.lt; omega
  replace hzr := Lib.hid hzr
  clear hx hK hp
  replace h := Lib.hid h
  replace hb := Lib.hid hb
  replace bC := Lib.hid bC
  replace bP := Lib.hid bP
  replace hz := Lib.hid hz
  replace hc := Lib.hid hc
  replace hbd := Lib.hid hbd
  unfold ptrV
  go_enter Tryz.func14, Tryz.ntmps14
  go_upto_region 1 with fail
  try rw [hz.out]
  generalize (w.alloc (.cells #[.int .i64 x, .string k, .string s, .int .i64 q, .slice A m c] 39)) = w1 at bC bP hb ⊢
  have e0 := bC.out.cell (i := 0) rfl
  have e1 := bC.out.cell (i := 1) rfl
  have e2 := bC.out.cell (i := 2) rfl
  have e3 := bC.out.cell (i := 3) rfl
  have e4 := bC.out.cell (i := 4) rfl
  have p0 : w1.cell? ⟨p, 0, none⟩ = some (ptrV rb) := bP.out.cell (i := 0) rfl
  unfold ptrV at p0
  have lp := bP.out.lt
  have lz := bC.out.lt
  have ha := hask w1
  go_wp2_with fail
  refine ha.mono ?_
  rintro e w2 ⟨rfl, hb2⟩
  have bD : Blk w2 z _ _ := (hb2.block z lz).trans bC.out
  have hbD := hb.out.trans (hb2.mono hb.out.size)
  have hS := h.out.below hbD
  clear e0 e1 e2 e3 e4 lz lp p0 ha hask bC hb hb2 h bP
  have e0 := bD.cell (i := 0) rfl
  have e1 := bD.cell (i := 1) rfl
  have e2 := bD.cell (i := 2) rfl
  have e3 := bD.cell (i := 3) rfl
  have e4 := bD.cell (i := 4) rfl
  have lz := bD.lt
  replace bD := Lib.hid bD
  replace hbD := Lib.hid hbD
  have hcl := a_status hS hc.out hbd.out q hn
  unfold ptrV at hcl
  replace hS := Lib.hid hS
  go_wp2_with fail
  refine hcl.mono ?_
  rintro e w3 ⟨rfl, ho⟩
  have hfin := Lib.hid (ho.behind hbD.out)
  clear hcl ho e0 e1 e2 e3 e4 lz hS hbD bD hc hbd
  go_wp2
  go_ret
  exact ⟨rfl, hfin.out⟩
set_option maxRecDepth 100000 in
set_option maxHeartbeats 8000000 in
theorem asked_9 {A2 : Option Addr} {m2 c2 : Nat} (hp : Blk w p [ptrV rb, .slice A2 m2 c2] 34) (h : RfA w rb r) (hc : Corr t.cur r) (hbd : Bd N r) (hN : N ≤ 80000) (hf : ¬ t.full) (x : Int) (k s : ByteArray) (q : Int) (A : Option Addr) (m c : Nat) (hx : In64 x) (hn : In64 q) (hK : askI x = 9) (hk : k.size ≤ 200) (hs : s.size ≤ 5000) (htr : TrapK t.cur) (hroom : t.was ≠ [] → t.ns.length + 5 < t.most) {ns : List ByteArray} (hns : KeysOf t.cur.t ns) :
    Calls Tryz.prog 14 #[ptrV p, .agg #[.int .i64 x, .string k, .string s, .int .i64 q, .slice A m c]] w fun e w' => e = .returned (.int .i64 0) ∧ RfOut w rb (N + 1) r.n (enterL ns t).2.cur w' := by
  obtain ⟨z, hz⟩ : ∃ z, w.heap.size = z := ⟨_, rfl⟩
  have bC : Blk (w.alloc (.cells #[.int .i64 x, .string k, .string s, .int .i64 q, .slice A m c] 39)) z [.int .i64 x, .string k, .string s, .int .i64 q, .slice A m c] 39 := by rw [← hz]; exact Blk.new w _ _
  have hb : Below w.heap.size w (w.alloc (.cells #[.int .i64 x, .string k, .string s, .int .i64 q, .slice A m c] 39)) := Below.of_alloc w _
  have bP : Blk (w.alloc (.cells #[.int .i64 x, .string k, .string s, .int .i64 q, .slice A m c] 39)) p [ptrV rb, .slice A2 m2 c2] 34 := (hb.block p hp.lt).trans hp
  have hask := fun W => ask_any x k s q (.slice A m c) ⟨A, m, c, rfl⟩ hx W
  rw [hK] at hask
  unfold In64 at hn
  have hzr : ¬ z = rb := fun e => by have := h.lt; omega
  replace hzr := Lib.hid hzr
  clear hx hK hp
  replace h := Lib.hid h
  replace hb := Lib.hid hb
  replace bC := Lib.hid bC
  replace bP := Lib.hid bP
  replace hz := Lib.hid hz
  replace hc := Lib.hid hc
  replace hbd := Lib.hid hbd
  replace hns := Lib.hid hns
  replace hroom := Lib.hid hroom
  unfold ptrV
  go_enter Tryz.func14, Tryz.ntmps14
  go_upto_region 1 with fail
  try rw [hz.out]
  generalize (w.alloc (.cells #[.int .i64 x, .string k, .string s, .int .i64 q, .slice A m c] 39)) = w1 at bC bP hb ⊢
  have e0 := bC.out.cell (i := 0) rfl
  have e1 := bC.out.cell (i := 1) rfl
  have e2 := bC.out.cell (i := 2) rfl
  have e3 := bC.out.cell (i := 3) rfl
  have e4 := bC.out.cell (i := 4) rfl
  have p0 : w1.cell? ⟨p, 0, none⟩ = some (ptrV rb) := bP.out.cell (i := 0) rfl
  unfold ptrV at p0
  have lp := bP.out.lt
  have lz := bC.out.lt
  have ha := hask w1
  go_wp2_with fail
  refine ha.mono ?_
  rintro e w2 ⟨rfl, hb2⟩
  have bD : Blk w2 z _ _ := (hb2.block z lz).trans bC.out
  have hbD := hb.out.trans (hb2.mono hb.out.size)
  have hS := h.out.below hbD
  clear e0 e1 e2 e3 e4 lz lp p0 ha hask bC hb hb2 h bP
  have e0 := bD.cell (i := 0) rfl
  have e1 := bD.cell (i := 1) rfl
  have e2 := bD.cell (i := 2) rfl
  have e3 := bD.cell (i := 3) rfl
  have e4 := bD.cell (i := 4) rfl
  have lz := bD.lt
  replace bD := Lib.hid bD
  replace hbD := Lib.hid hbD
  have hcl := (a_enter hS hc.out hbd.out hN htr hroom.out hns.out).2
  unfold ptrV at hcl
  replace hS := Lib.hid hS
  clear hns htr hroom
  go_wp2_with fail
  refine hcl.mono ?_
  rintro e w3 ⟨rfl, ho⟩
  have hfin := Lib.hid (ho.behind hbD.out)
  clear hcl ho e0 e1 e2 e3 e4 lz hS hbD bD hc hbd
  go_wp2
  go_ret
  exact ⟨rfl, hfin.out⟩
set_option maxRecDepth 100000 in
set_option maxHeartbeats 8000000 in
theorem asked_3 {A2 : Option Addr} {m2 c2 : Nat} (hp : Blk w p [ptrV rb, .slice A2 m2 c2] 34) (h : RfA w rb r) (hc : Corr t.cur r) (hbd : Bd N r) (hN : N ≤ 80000) (hf : ¬ t.full) (x : Int) (k s : ByteArray) (q : Int) (A : Option Addr) (m c : Nat) (hx : In64 x) (hn : In64 q) (hK : askI x = 3) (hk : k.size ≤ 200) (hs : s.size ≤ 5000) :
    Calls Tryz.prog 14 #[ptrV p, .agg #[.int .i64 x, .string k, .string s, .int .i64 q, .slice A m c]] w fun e w' => e = .returned (.int .i64 (t.setF k ⟨6, s⟩).1) ∧ RfOut w rb (N + 1) r.n (t.setF k ⟨6, s⟩).2.cur w' := by
  obtain ⟨z, hz⟩ : ∃ z, w.heap.size = z := ⟨_, rfl⟩
  have bC : Blk (w.alloc (.cells #[.int .i64 x, .string k, .string s, .int .i64 q, .slice A m c] 39)) z [.int .i64 x, .string k, .string s, .int .i64 q, .slice A m c] 39 := by rw [← hz]; exact Blk.new w _ _
  have hb : Below w.heap.size w (w.alloc (.cells #[.int .i64 x, .string k, .string s, .int .i64 q, .slice A m c] 39)) := Below.of_alloc w _
  have bP : Blk (w.alloc (.cells #[.int .i64 x, .string k, .string s, .int .i64 q, .slice A m c] 39)) p [ptrV rb, .slice A2 m2 c2] 34 := (hb.block p hp.lt).trans hp
  have hask := fun W => ask_any x k s q (.slice A m c) ⟨A, m, c, rfl⟩ hx W
  rw [hK] at hask
  unfold In64 at hn
  have hzr : ¬ z = rb := fun e => by have := h.lt; omega
  replace hzr := Lib.hid hzr
  clear hx hK hp
  replace h := Lib.hid h
  replace hb := Lib.hid hb
  replace bC := Lib.hid bC
  replace bP := Lib.hid bP
  replace hz := Lib.hid hz
  replace hc := Lib.hid hc
  replace hbd := Lib.hid hbd
  unfold ptrV
  go_enter Tryz.func14, Tryz.ntmps14
  go_upto_region 1 with fail
  try rw [hz.out]
  generalize (w.alloc (.cells #[.int .i64 x, .string k, .string s, .int .i64 q, .slice A m c] 39)) = w1 at bC bP hb ⊢
  have e0 := bC.out.cell (i := 0) rfl
  have e1 := bC.out.cell (i := 1) rfl
  have e2 := bC.out.cell (i := 2) rfl
  have e3 := bC.out.cell (i := 3) rfl
  have e4 := bC.out.cell (i := 4) rfl
  have p0 : w1.cell? ⟨p, 0, none⟩ = some (ptrV rb) := bP.out.cell (i := 0) rfl
  unfold ptrV at p0
  have lp := bP.out.lt
  have lz := bC.out.lt
  have ha := hask w1
  go_wp2_with fail
  refine ha.mono ?_
  rintro e w2 ⟨rfl, hb2⟩
  have bD : Blk w2 z _ _ := (hb2.block z lz).trans bC.out
  have hbD := hb.out.trans (hb2.mono hb.out.size)
  have hS := h.out.below hbD
  clear e0 e1 e2 e3 e4 lz lp p0 ha hask bC hb hb2 h bP
  have e0 := bD.cell (i := 0) rfl
  have e1 := bD.cell (i := 1) rfl
  have e2 := bD.cell (i := 2) rfl
  have e3 := bD.cell (i := 3) rfl
  have e4 := bD.cell (i := 4) rfl
  have lz := bD.lt
  replace bD := Lib.hid bD
  replace hbD := Lib.hid hbD
  have hS1 := hS.below (drewN_below w2 1)
  have hb1 := hbD.out.trans (Below.mono (drewN_below w2 1) hbD.out.size)
  have hk0 : w2.drew.cell? ⟨z, 1, none⟩ = some (.string k) ∧ w2.drew.cell? ⟨z, 2, none⟩ = some (.string s) := ⟨e1, e2⟩
  have bD1 : Blk w2.drew z _ _ := bD.out
  have hn4 := node_any s w2.drew
  replace hS1 := Lib.hid hS1
  replace hb1 := Lib.hid hb1
  replace bD1 := Lib.hid bD1
  clear e0 e3 e4 hS hbD bD
  go_wp2
  go_region_held3 (fun w' => w'.cell? ⟨z, 1, none⟩ = some (.string k) ∧ w'.cell? ⟨z, 2, none⟩ = some (.string s))
    (first | go_keep | exact hk0 | exact hk1 | exact hk2)
    (first
      | (go_at_call 42; refine hn4.mono ?_; rintro e w4 ⟨rfl, hb4⟩; have b4 : Blk w4 z _ _ := (hb4.block z bD1.out.lt).trans bD1.out; have l4 := b4.lt; have hk1 : w4.cell? ⟨z, 1, none⟩ = some (.string k) ∧ w4.cell? ⟨z, 2, none⟩ = some (.string s) := ⟨b4.cell (i := 1) rfl, b4.cell (i := 2) rfl⟩; replace b4 := Lib.hid b4; have hS4 := hS1.out.below hb4; have hB4 := Lib.hid (hb1.out.trans (hb4.mono hb1.out.size)); have hs5 := a_setF hS4 hc.out hbd.out hN hf k ⟨6, s⟩ (by omega); unfold ptrV encN at hs5; replace hS4 := Lib.hid hS4; clear hb4)
      | (go_at_call 53; refine hs5.mono ?_; rintro e w5 ⟨rfl, ho⟩; have b5 : Blk w5 z _ _ := (ho.stp.block z b4.out.lt hzr.out).trans b4.out; have hk2 : w5.cell? ⟨z, 1, none⟩ = some (.string k) ∧ w5.cell? ⟨z, 2, none⟩ = some (.string s) := ⟨b5.cell (i := 1) rfl, b5.cell (i := 2) rfl⟩; have hfin := Lib.hid (ho.behind hB4.out); clear ho b5))
  clear hk0 hk1 hk2 hn4 hs5 e1 e2 l4 lz
  go_wp2
  go_ret
  exact ⟨rfl, hfin.out⟩
set_option maxRecDepth 100000 in
set_option maxHeartbeats 8000000 in
theorem asked_10a {A2 : Option Addr} {m2 c2 : Nat} (hp : Blk w p [ptrV rb, .slice A2 m2 c2] 34) (h : RfA w rb r) (hc : Corr t.cur r) (hbd : Bd N r) (hN : N ≤ 80000) (hf : ¬ t.full) (x : Int) (k s : ByteArray) (q : Int) (A : Option Addr) (m c : Nat) (hx : In64 x) (hn : In64 q) (hK : askI x = 10) (hk : k.size ≤ 200) (hs : s.size ≤ 5000) (h2 : q.tmod 2 = 0) :
    Calls Tryz.prog 14 #[ptrV p, .agg #[.int .i64 x, .string k, .string s, .int .i64 q, .slice A m c]] w fun e w' => e = .returned (.int .i64 (t.setO (firstB s) false).1) ∧ RfOut w rb (N + 1) r.n (t.setO (firstB s) false).2.cur w' := by
  obtain ⟨z, hz⟩ : ∃ z, w.heap.size = z := ⟨_, rfl⟩
  have bC : Blk (w.alloc (.cells #[.int .i64 x, .string k, .string s, .int .i64 q, .slice A m c] 39)) z [.int .i64 x, .string k, .string s, .int .i64 q, .slice A m c] 39 := by rw [← hz]; exact Blk.new w _ _
  have hb : Below w.heap.size w (w.alloc (.cells #[.int .i64 x, .string k, .string s, .int .i64 q, .slice A m c] 39)) := Below.of_alloc w _
  have bP : Blk (w.alloc (.cells #[.int .i64 x, .string k, .string s, .int .i64 q, .slice A m c] 39)) p [ptrV rb, .slice A2 m2 c2] 34 := (hb.block p hp.lt).trans hp
  have hask := fun W => ask_any x k s q (.slice A m c) ⟨A, m, c, rfl⟩ hx W
  rw [hK] at hask
  unfold In64 at hn
  have hzr : ¬ z = rb := fun e => by have := h.lt; omega
  replace hzr := Lib.hid hzr
  clear hx hK hp
  replace h := Lib.hid h
  replace hb := Lib.hid hb
  replace bC := Lib.hid bC
  replace bP := Lib.hid bP
  replace hz := Lib.hid hz
  replace hc := Lib.hid hc
  replace hbd := Lib.hid hbd
  unfold ptrV
  go_enter Tryz.func14, Tryz.ntmps14
  go_upto_region 1 with fail
  try rw [hz.out]
  generalize (w.alloc (.cells #[.int .i64 x, .string k, .string s, .int .i64 q, .slice A m c] 39)) = w1 at bC bP hb ⊢
  have e0 := bC.out.cell (i := 0) rfl
  have e1 := bC.out.cell (i := 1) rfl
  have e2 := bC.out.cell (i := 2) rfl
  have e3 := bC.out.cell (i := 3) rfl
  have e4 := bC.out.cell (i := 4) rfl
  have p0 : w1.cell? ⟨p, 0, none⟩ = some (ptrV rb) := bP.out.cell (i := 0) rfl
  unfold ptrV at p0
  have lp := bP.out.lt
  have lz := bC.out.lt
  have ha := hask w1
  go_wp2_with fail
  refine ha.mono ?_
  rintro e w2 ⟨rfl, hb2⟩
  have bD : Blk w2 z _ _ := (hb2.block z lz).trans bC.out
  have hbD := hb.out.trans (hb2.mono hb.out.size)
  have hS := h.out.below hbD
  clear e0 e1 e2 e3 e4 lz lp p0 ha hask bC hb hb2 h bP
  have e0 := bD.cell (i := 0) rfl
  have e1 := bD.cell (i := 1) rfl
  have e2 := bD.cell (i := 2) rfl
  have e3 := bD.cell (i := 3) rfl
  have e4 := bD.cell (i := 4) rfl
  have lz := bD.lt
  replace bD := Lib.hid bD
  replace hbD := Lib.hid hbD
  have hS1 := hS.below (drewN_below w2 1)
  have hb1 := hbD.out.trans (Below.mono (drewN_below w2 1) hbD.out.size)
  have hk0 : w2.drew.cell? ⟨z, 2, none⟩ = some (.string s) ∧ w2.drew.cell? ⟨z, 3, none⟩ = some (.int .i64 q) := ⟨e2, e3⟩
  have bD1 : Blk w2.drew z _ _ := bD.out
  have hn4 := first_any s (by omega) w2.drew
  have hs5 := a_opt hS1 hc.out hbd.out hf (firstB s) false
  unfold ptrV at hs5
  replace hS1 := Lib.hid hS1
  replace hb1 := Lib.hid hb1
  replace bD1 := Lib.hid bD1
  clear e0 e1 e4 hS hbD bD
  go_wp2
  go_region_held3 (fun w' => w'.cell? ⟨z, 2, none⟩ = some (.string s) ∧ w'.cell? ⟨z, 3, none⟩ = some (.int .i64 q))
    (first | go_keep | exact hk0 | exact hk2)
    (first
      | (go_at_call 47; refine hn4.mono ?_; rintro e w4 ⟨rfl, rfl⟩)
      | (go_at_call 60; refine hs5.mono ?_; rintro e w5 ⟨rfl, ho⟩; have b5 : Blk w5 z _ _ := (ho.stp.block z bD1.out.lt hzr.out).trans bD1.out; have hk2 : w5.cell? ⟨z, 2, none⟩ = some (.string s) ∧ w5.cell? ⟨z, 3, none⟩ = some (.int .i64 q) := ⟨b5.cell (i := 2) rfl, b5.cell (i := 3) rfl⟩; have hfin := Lib.hid (ho.behind hb1.out); clear ho b5))
  clear hk0 hk2 hn4 hs5 e2 e3 lz
  go_wp2
  go_ret
  exact ⟨rfl, hfin.out⟩
set_option maxRecDepth 100000 in
set_option maxHeartbeats 8000000 in
theorem asked_10b {A2 : Option Addr} {m2 c2 : Nat} (hp : Blk w p [ptrV rb, .slice A2 m2 c2] 34) (h : RfA w rb r) (hc : Corr t.cur r) (hbd : Bd N r) (hN : N ≤ 80000) (hf : ¬ t.full) (x : Int) (k s : ByteArray) (q : Int) (A : Option Addr) (m c : Nat) (hx : In64 x) (hn : In64 q) (hK : askI x = 10) (hk : k.size ≤ 200) (hs : s.size ≤ 5000) (h2 : ¬ q.tmod 2 = 0) :
    Calls Tryz.prog 14 #[ptrV p, .agg #[.int .i64 x, .string k, .string s, .int .i64 q, .slice A m c]] w fun e w' => e = .returned (.int .i64 (t.setO (firstB s) true).1) ∧ RfOut w rb (N + 1) r.n (t.setO (firstB s) true).2.cur w' := by
  obtain ⟨z, hz⟩ : ∃ z, w.heap.size = z := ⟨_, rfl⟩
  have bC : Blk (w.alloc (.cells #[.int .i64 x, .string k, .string s, .int .i64 q, .slice A m c] 39)) z [.int .i64 x, .string k, .string s, .int .i64 q, .slice A m c] 39 := by rw [← hz]; exact Blk.new w _ _
  have hb : Below w.heap.size w (w.alloc (.cells #[.int .i64 x, .string k, .string s, .int .i64 q, .slice A m c] 39)) := Below.of_alloc w _
  have bP : Blk (w.alloc (.cells #[.int .i64 x, .string k, .string s, .int .i64 q, .slice A m c] 39)) p [ptrV rb, .slice A2 m2 c2] 34 := (hb.block p hp.lt).trans hp
  have hask := fun W => ask_any x k s q (.slice A m c) ⟨A, m, c, rfl⟩ hx W
  rw [hK] at hask
  unfold In64 at hn
  have hzr : ¬ z = rb := fun e => by have := h.lt; omega
  replace hzr := Lib.hid hzr
  clear hx hK hp
  replace h := Lib.hid h
  replace hb := Lib.hid hb
  replace bC := Lib.hid bC
  replace bP := Lib.hid bP
  replace hz := Lib.hid hz
  replace hc := Lib.hid hc
  replace hbd := Lib.hid hbd
  have h2b : (q.tmod 2 != 0) = true := bne_iff_ne.2 h2
  clear h2
  unfold ptrV
  go_enter Tryz.func14, Tryz.ntmps14
  go_upto_region 1 with fail
  try rw [hz.out]
  generalize (w.alloc (.cells #[.int .i64 x, .string k, .string s, .int .i64 q, .slice A m c] 39)) = w1 at bC bP hb ⊢
  have e0 := bC.out.cell (i := 0) rfl
  have e1 := bC.out.cell (i := 1) rfl
  have e2 := bC.out.cell (i := 2) rfl
  have e3 := bC.out.cell (i := 3) rfl
  have e4 := bC.out.cell (i := 4) rfl
  have p0 : w1.cell? ⟨p, 0, none⟩ = some (ptrV rb) := bP.out.cell (i := 0) rfl
  unfold ptrV at p0
  have lp := bP.out.lt
  have lz := bC.out.lt
  have ha := hask w1
  go_wp2_with fail
  refine ha.mono ?_
  rintro e w2 ⟨rfl, hb2⟩
  have bD : Blk w2 z _ _ := (hb2.block z lz).trans bC.out
  have hbD := hb.out.trans (hb2.mono hb.out.size)
  have hS := h.out.below hbD
  clear e0 e1 e2 e3 e4 lz lp p0 ha hask bC hb hb2 h bP
  have e0 := bD.cell (i := 0) rfl
  have e1 := bD.cell (i := 1) rfl
  have e2 := bD.cell (i := 2) rfl
  have e3 := bD.cell (i := 3) rfl
  have e4 := bD.cell (i := 4) rfl
  have lz := bD.lt
  replace bD := Lib.hid bD
  replace hbD := Lib.hid hbD
  have hS1 := hS.below (drewN_below w2 1)
  have hb1 := hbD.out.trans (Below.mono (drewN_below w2 1) hbD.out.size)
  have hk0 : w2.drew.cell? ⟨z, 2, none⟩ = some (.string s) ∧ w2.drew.cell? ⟨z, 3, none⟩ = some (.int .i64 q) := ⟨e2, e3⟩
  have bD1 : Blk w2.drew z _ _ := bD.out
  have hn4 := first_any s (by omega) w2.drew
  have hs5 := a_opt hS1 hc.out hbd.out hf (firstB s) true
  unfold ptrV at hs5
  replace hS1 := Lib.hid hS1
  replace hb1 := Lib.hid hb1
  replace bD1 := Lib.hid bD1
  clear e0 e1 e4 hS hbD bD
  go_wp2
  go_region_held3 (fun w' => w'.cell? ⟨z, 2, none⟩ = some (.string s) ∧ w'.cell? ⟨z, 3, none⟩ = some (.int .i64 q))
    (first | go_keep | exact hk0 | exact hk2)
    (first
      | (go_at_call 47; refine hn4.mono ?_; rintro e w4 ⟨rfl, rfl⟩)
      | (go_at_call 60; refine hs5.mono ?_; rintro e w5 ⟨rfl, ho⟩; have b5 : Blk w5 z _ _ := (ho.stp.block z bD1.out.lt hzr.out).trans bD1.out; have hk2 : w5.cell? ⟨z, 2, none⟩ = some (.string s) ∧ w5.cell? ⟨z, 3, none⟩ = some (.int .i64 q) := ⟨b5.cell (i := 2) rfl, b5.cell (i := 3) rfl⟩; have hfin := Lib.hid (ho.behind hb1.out); clear ho b5))
  clear hk0 hk2 hn4 hs5 e2 e3 lz
  go_wp2
  go_ret
  exact ⟨rfl, hfin.out⟩
set_option maxRecDepth 100000 in
set_option maxHeartbeats 8000000 in
theorem asked_11a {A2 : Option Addr} {m2 c2 : Nat} (hp : Blk w p [ptrV rb, .slice A2 m2 c2] 34) (h : RfA w rb r) (hc : Corr t.cur r) (hbd : Bd N r) (hN : N ≤ 80000) (hf : ¬ t.full) (x : Int) (k s : ByteArray) (q : Int) (A : Option Addr) (m c : Nat) (hx : In64 x) (hn : In64 q) (hK : askI x = 11) (hk : k.size ≤ 200) (hs : s.size ≤ 5000) (h2 : q.tmod 2 = 0) :
    Calls Tryz.prog 14 #[ptrV p, .agg #[.int .i64 x, .string k, .string s, .int .i64 q, .slice A m c]] w fun e w' => e = .returned (.int .i64 (t.setO (firstB s) false).1) ∧ RfOut w rb (N + 1) r.n (t.setO (firstB s) false).2.cur w' := by
  obtain ⟨z, hz⟩ : ∃ z, w.heap.size = z := ⟨_, rfl⟩
  have bC : Blk (w.alloc (.cells #[.int .i64 x, .string k, .string s, .int .i64 q, .slice A m c] 39)) z [.int .i64 x, .string k, .string s, .int .i64 q, .slice A m c] 39 := by rw [← hz]; exact Blk.new w _ _
  have hb : Below w.heap.size w (w.alloc (.cells #[.int .i64 x, .string k, .string s, .int .i64 q, .slice A m c] 39)) := Below.of_alloc w _
  have bP : Blk (w.alloc (.cells #[.int .i64 x, .string k, .string s, .int .i64 q, .slice A m c] 39)) p [ptrV rb, .slice A2 m2 c2] 34 := (hb.block p hp.lt).trans hp
  have hask := fun W => ask_any x k s q (.slice A m c) ⟨A, m, c, rfl⟩ hx W
  rw [hK] at hask
  unfold In64 at hn
  have hzr : ¬ z = rb := fun e => by have := h.lt; omega
  replace hzr := Lib.hid hzr
  clear hx hK hp
  replace h := Lib.hid h
  replace hb := Lib.hid hb
  replace bC := Lib.hid bC
  replace bP := Lib.hid bP
  replace hz := Lib.hid hz
  replace hc := Lib.hid hc
  replace hbd := Lib.hid hbd
  unfold ptrV
  go_enter Tryz.func14, Tryz.ntmps14
  go_upto_region 1 with fail
  try rw [hz.out]
  generalize (w.alloc (.cells #[.int .i64 x, .string k, .string s, .int .i64 q, .slice A m c] 39)) = w1 at bC bP hb ⊢
  have e0 := bC.out.cell (i := 0) rfl
  have e1 := bC.out.cell (i := 1) rfl
  have e2 := bC.out.cell (i := 2) rfl
  have e3 := bC.out.cell (i := 3) rfl
  have e4 := bC.out.cell (i := 4) rfl
  have p0 : w1.cell? ⟨p, 0, none⟩ = some (ptrV rb) := bP.out.cell (i := 0) rfl
  unfold ptrV at p0
  have lp := bP.out.lt
  have lz := bC.out.lt
  have ha := hask w1
  go_wp2_with fail
  refine ha.mono ?_
  rintro e w2 ⟨rfl, hb2⟩
  have bD : Blk w2 z _ _ := (hb2.block z lz).trans bC.out
  have hbD := hb.out.trans (hb2.mono hb.out.size)
  have hS := h.out.below hbD
  clear e0 e1 e2 e3 e4 lz lp p0 ha hask bC hb hb2 h bP
  have e0 := bD.cell (i := 0) rfl
  have e1 := bD.cell (i := 1) rfl
  have e2 := bD.cell (i := 2) rfl
  have e3 := bD.cell (i := 3) rfl
  have e4 := bD.cell (i := 4) rfl
  have lz := bD.lt
  replace bD := Lib.hid bD
  replace hbD := Lib.hid hbD
  have hS1 := hS.below (drewN_below w2 1)
  have hb1 := hbD.out.trans (Below.mono (drewN_below w2 1) hbD.out.size)
  have hk0 : w2.drew.cell? ⟨z, 2, none⟩ = some (.string s) ∧ w2.drew.cell? ⟨z, 3, none⟩ = some (.int .i64 q) := ⟨e2, e3⟩
  have bD1 : Blk w2.drew z _ _ := bD.out
  have hn4 := first_any s (by omega) w2.drew
  have hs5 := a_opt hS1 hc.out hbd.out hf (firstB s) false
  unfold ptrV at hs5
  replace hS1 := Lib.hid hS1
  replace hb1 := Lib.hid hb1
  replace bD1 := Lib.hid bD1
  clear e0 e1 e4 hS hbD bD
  go_wp2
  go_region_held3 (fun w' => w'.cell? ⟨z, 2, none⟩ = some (.string s) ∧ w'.cell? ⟨z, 3, none⟩ = some (.int .i64 q))
    (first | go_keep | exact hk0 | exact hk2)
    (first
      | (go_at_call 47; refine hn4.mono ?_; rintro e w4 ⟨rfl, rfl⟩)
      | (go_at_call 60; refine hs5.mono ?_; rintro e w5 ⟨rfl, ho⟩; have b5 : Blk w5 z _ _ := (ho.stp.block z bD1.out.lt hzr.out).trans bD1.out; have hk2 : w5.cell? ⟨z, 2, none⟩ = some (.string s) ∧ w5.cell? ⟨z, 3, none⟩ = some (.int .i64 q) := ⟨b5.cell (i := 2) rfl, b5.cell (i := 3) rfl⟩; have hfin := Lib.hid (ho.behind hb1.out); clear ho b5))
  clear hk0 hk2 hn4 hs5 e2 e3 lz
  go_wp2
  go_ret
  exact ⟨rfl, hfin.out⟩
set_option maxRecDepth 100000 in
set_option maxHeartbeats 8000000 in
theorem asked_11b {A2 : Option Addr} {m2 c2 : Nat} (hp : Blk w p [ptrV rb, .slice A2 m2 c2] 34) (h : RfA w rb r) (hc : Corr t.cur r) (hbd : Bd N r) (hN : N ≤ 80000) (hf : ¬ t.full) (x : Int) (k s : ByteArray) (q : Int) (A : Option Addr) (m c : Nat) (hx : In64 x) (hn : In64 q) (hK : askI x = 11) (hk : k.size ≤ 200) (hs : s.size ≤ 5000) (h2 : ¬ q.tmod 2 = 0) :
    Calls Tryz.prog 14 #[ptrV p, .agg #[.int .i64 x, .string k, .string s, .int .i64 q, .slice A m c]] w fun e w' => e = .returned (.int .i64 (t.setO (firstB s) true).1) ∧ RfOut w rb (N + 1) r.n (t.setO (firstB s) true).2.cur w' := by
  obtain ⟨z, hz⟩ : ∃ z, w.heap.size = z := ⟨_, rfl⟩
  have bC : Blk (w.alloc (.cells #[.int .i64 x, .string k, .string s, .int .i64 q, .slice A m c] 39)) z [.int .i64 x, .string k, .string s, .int .i64 q, .slice A m c] 39 := by rw [← hz]; exact Blk.new w _ _
  have hb : Below w.heap.size w (w.alloc (.cells #[.int .i64 x, .string k, .string s, .int .i64 q, .slice A m c] 39)) := Below.of_alloc w _
  have bP : Blk (w.alloc (.cells #[.int .i64 x, .string k, .string s, .int .i64 q, .slice A m c] 39)) p [ptrV rb, .slice A2 m2 c2] 34 := (hb.block p hp.lt).trans hp
  have hask := fun W => ask_any x k s q (.slice A m c) ⟨A, m, c, rfl⟩ hx W
  rw [hK] at hask
  unfold In64 at hn
  have hzr : ¬ z = rb := fun e => by have := h.lt; omega
  replace hzr := Lib.hid hzr
  clear hx hK hp
  replace h := Lib.hid h
  replace hb := Lib.hid hb
  replace bC := Lib.hid bC
  replace bP := Lib.hid bP
  replace hz := Lib.hid hz
  replace hc := Lib.hid hc
  replace hbd := Lib.hid hbd
  have h2b : (q.tmod 2 != 0) = true := bne_iff_ne.2 h2
  clear h2
  unfold ptrV
  go_enter Tryz.func14, Tryz.ntmps14
  go_upto_region 1 with fail
  try rw [hz.out]
  generalize (w.alloc (.cells #[.int .i64 x, .string k, .string s, .int .i64 q, .slice A m c] 39)) = w1 at bC bP hb ⊢
  have e0 := bC.out.cell (i := 0) rfl
  have e1 := bC.out.cell (i := 1) rfl
  have e2 := bC.out.cell (i := 2) rfl
  have e3 := bC.out.cell (i := 3) rfl
  have e4 := bC.out.cell (i := 4) rfl
  have p0 : w1.cell? ⟨p, 0, none⟩ = some (ptrV rb) := bP.out.cell (i := 0) rfl
  unfold ptrV at p0
  have lp := bP.out.lt
  have lz := bC.out.lt
  have ha := hask w1
  go_wp2_with fail
  refine ha.mono ?_
  rintro e w2 ⟨rfl, hb2⟩
  have bD : Blk w2 z _ _ := (hb2.block z lz).trans bC.out
  have hbD := hb.out.trans (hb2.mono hb.out.size)
  have hS := h.out.below hbD
  clear e0 e1 e2 e3 e4 lz lp p0 ha hask bC hb hb2 h bP
  have e0 := bD.cell (i := 0) rfl
  have e1 := bD.cell (i := 1) rfl
  have e2 := bD.cell (i := 2) rfl
  have e3 := bD.cell (i := 3) rfl
  have e4 := bD.cell (i := 4) rfl
  have lz := bD.lt
  replace bD := Lib.hid bD
  replace hbD := Lib.hid hbD
  have hS1 := hS.below (drewN_below w2 1)
  have hb1 := hbD.out.trans (Below.mono (drewN_below w2 1) hbD.out.size)
  have hk0 : w2.drew.cell? ⟨z, 2, none⟩ = some (.string s) ∧ w2.drew.cell? ⟨z, 3, none⟩ = some (.int .i64 q) := ⟨e2, e3⟩
  have bD1 : Blk w2.drew z _ _ := bD.out
  have hn4 := first_any s (by omega) w2.drew
  have hs5 := a_opt hS1 hc.out hbd.out hf (firstB s) true
  unfold ptrV at hs5
  replace hS1 := Lib.hid hS1
  replace hb1 := Lib.hid hb1
  replace bD1 := Lib.hid bD1
  clear e0 e1 e4 hS hbD bD
  go_wp2
  go_region_held3 (fun w' => w'.cell? ⟨z, 2, none⟩ = some (.string s) ∧ w'.cell? ⟨z, 3, none⟩ = some (.int .i64 q))
    (first | go_keep | exact hk0 | exact hk2)
    (first
      | (go_at_call 47; refine hn4.mono ?_; rintro e w4 ⟨rfl, rfl⟩)
      | (go_at_call 60; refine hs5.mono ?_; rintro e w5 ⟨rfl, ho⟩; have b5 : Blk w5 z _ _ := (ho.stp.block z bD1.out.lt hzr.out).trans bD1.out; have hk2 : w5.cell? ⟨z, 2, none⟩ = some (.string s) ∧ w5.cell? ⟨z, 3, none⟩ = some (.int .i64 q) := ⟨b5.cell (i := 2) rfl, b5.cell (i := 3) rfl⟩; have hfin := Lib.hid (ho.behind hb1.out); clear ho b5))
  clear hk0 hk2 hn4 hs5 e2 e3 lz
  go_wp2
  go_ret
  exact ⟨rfl, hfin.out⟩
end
end Go.Proofs.YtigmdfdcflkggaaGreat
