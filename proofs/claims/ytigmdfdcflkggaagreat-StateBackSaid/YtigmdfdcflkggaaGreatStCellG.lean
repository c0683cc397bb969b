/-
  A cell of a log, of state.given: New, Get, Set, and its notes. Conditions: none.
-/
import Derived.Test.YtigmdfdcflkggaaGreatStMem
namespace Go.Proofs.YtigmdfdcflkggaaGreat.CG
open Go Go.RowKit Go.ChangeMaps

/-- A note in memory: its closure, and the cells that it has caught. -/
def NoteAt (w : World) (cb : Nat) (v : Value) (cs : List Value) : Prop := ∃ b0 b1, v = .func (.func 128) #[] #[ptrV b0, ptrV b1] ∧ Blk w b0 cs 103 ∧ Blk w b1 [ptrV cb] 108
def NoteT (t : TypeId) : Prop := t = 103 ∨ t = 108
theorem NoteAt.keep {w w' : World} {cb : Nat} {v : Value} {cs : List Value} (h : NoteAt w cb v cs) (hk : ∀ (b : Nat) cur t, Blk w b cur t → NoteT t → Blk w' b cur t) : NoteAt w' cb v cs := by
  obtain ⟨b0, b1, hv, h0, h1⟩ := h
  exact ⟨b0, b1, hv, hk _ _ _ h0 (.inl rfl), hk _ _ _ h1 (.inr rfl)⟩
section
variable {w w' : World} {B cb : Nat} {lo : Option Addr}
set_option maxRecDepth 100000 in
theorem New_any (lo : Option Addr) (yA : Option Addr) (yn yc : Nat) (y1 y2 : Int) (w : World) :
    Calls Tryz.prog 93 #[.pointer lo, .agg #[.slice yA yn yc, .int .i64 y1, .int .i64 y2]] w fun e w' => ∃ b, e = .returned (ptrV b) ∧ CellAt 144 w' w.heap.size b lo [.slice yA yn yc, .int .i64 y1, .int .i64 y2] ∧ Below w.heap.size w w' ∧ w'.heap.size ≤ w.heap.size + 2 := by
  have hs : (w.alloc (.cells #[.slice yA yn yc, .int .i64 y1, .int .i64 y2] 103)).heap.size = w.heap.size + 1 := by simp
  have hb2 : Blk ((w.alloc (.cells #[.slice yA yn yc, .int .i64 y1, .int .i64 y2] 103)).alloc (.cells #[.pointer lo, .slice yA yn yc, .int .i64 y1, .int .i64 y2] 144)) (w.heap.size + 1) [.pointer lo, .slice yA yn yc, .int .i64 y1, .int .i64 y2] 144 := by rw [← hs]; exact Blk.new _ _ _
  have hm : CellAt 144 ((w.alloc (.cells #[.slice yA yn yc, .int .i64 y1, .int .i64 y2] 103)).alloc (.cells #[.pointer lo, .slice yA yn yc, .int .i64 y1, .int .i64 y2] 144)) w.heap.size (w.heap.size + 1) lo [.slice yA yn yc, .int .i64 y1, .int .i64 y2] := ⟨Nat.le_succ _, hb2⟩
  have hbl := ((Below.refl w.heap.size w).alloc (Nat.le_refl _) (.cells #[.slice yA yn yc, .int .i64 y1, .int .i64 y2] 103)).alloc (by rw [hs]; omega) (.cells #[.pointer lo, .slice yA yn yc, .int .i64 y1, .int .i64 y2] 144)
  have hsz : ((w.alloc (.cells #[.slice yA yn yc, .int .i64 y1, .int .i64 y2] 103)).alloc (.cells #[.pointer lo, .slice yA yn yc, .int .i64 y1, .int .i64 y2] 144)).heap.size ≤ w.heap.size + 2 := by simp
  clear hs hb2
  replace hm := Lib.hid hm
  replace hbl := Lib.hid hbl
  replace hsz := Lib.hid hsz
  unfold ptrV
  go_enter Tryz.func93, Tryz.ntmps93
  go_wp2
  go_ret
  exact ⟨_, rfl, hm.out, hbl.out, hsz.out⟩
set_option maxRecDepth 100000 in
theorem Get_any (sA : Option Addr) (sn sc : Nat) (s1 s2 : Int) (h : CellAt 144 w B cb lo [.slice sA sn sc, .int .i64 s1, .int .i64 s2]) :
    Calls Tryz.prog 79 #[ptrV cb] w fun e w' => e = .returned (.agg #[.slice sA sn sc, .int .i64 s1, .int .i64 s2]) ∧ Below w.heap.size w w' := by
  have c1 : w.cell? ⟨cb, 1, none⟩ = some (.slice sA sn sc) := h.blk.cell (i := 1) rfl
  have c2 : w.cell? ⟨cb, 2, none⟩ = some (.int .i64 s1) := h.blk.cell (i := 2) rfl
  have c3 : w.cell? ⟨cb, 3, none⟩ = some (.int .i64 s2) := h.blk.cell (i := 3) rfl
  have hlt := h.blk.lt
  have eb : Blk (w.alloc (.cells #[.slice sA sn sc, .int .i64 s1, .int .i64 s2] 103)) w.heap.size [.slice sA sn sc, .int .i64 s1, .int .i64 s2] 103 := Blk.new w _ _
  have hbE : Below w.heap.size w (w.alloc (.cells #[.slice sA sn sc, .int .i64 s1, .int .i64 s2] 103)) := Below.of_alloc w _
  replace eb := Lib.hid eb
  replace hbE := Lib.hid hbE
  unfold ptrV
  clear h
  go_enter Tryz.func79, Tryz.ntmps79
  go_wp2
  generalize (w.alloc (.cells #[.slice sA sn sc, .int .i64 s1, .int .i64 s2] 103)) = wE at eb hbE ⊢
  replace eb := eb.out
  have e0 : wE.cell? ⟨w.heap.size, 0, none⟩ = some (.slice sA sn sc) := eb.cell (i := 0) rfl
  have e1 : wE.cell? ⟨w.heap.size, 1, none⟩ = some (.int .i64 s1) := eb.cell (i := 1) rfl
  have e2 : wE.cell? ⟨w.heap.size, 2, none⟩ = some (.int .i64 s2) := eb.cell (i := 2) rfl
  exact bodyPost_ret (v := .agg #[.slice sA sn sc, .int .i64 s1, .int .i64 s2]) (by simp [results, Tryz.results79, e0, e1, e2, go_sem]) rfl ⟨rfl, hbE.out⟩
set_option maxRecDepth 100000 in
theorem do_cell (sA : Option Addr) (sn sc : Nat) (s1 s2 : Int) (yA : Option Addr) (yn yc : Nat) (y1 y2 : Int) (h : CellAt 144 w B cb lo [.slice sA sn sc, .int .i64 s1, .int .i64 s2]) {cap : Array Value} (n : NoteAt w cb (.func (.func 128) #[] cap) [.slice yA yn yc, .int .i64 y1, .int .i64 y2]) :
    Calls Tryz.prog 128 cap w fun e w' => e = .returned (.tuple #[]) ∧ CellAt 144 w' B cb lo [.slice yA yn yc, .int .i64 y1, .int .i64 y2] ∧ Stp (fun b => b = cb) w w' := by
  obtain ⟨b0, b1, hv, n0, n1⟩ := n
  obtain ⟨_, _, rfl⟩ := Value.func.inj hv
  have q0 : w.cell? ⟨b0, 0, none⟩ = some (.slice yA yn yc) := n0.cell (i := 0) rfl
  have q1 : w.cell? ⟨b0, 1, none⟩ = some (.int .i64 y1) := n0.cell (i := 1) rfl
  have q2 : w.cell? ⟨b0, 2, none⟩ = some (.int .i64 y2) := n0.cell (i := 2) rfl
  have r1 : w.cell? ⟨b1, 0, none⟩ = some (.pointer (some ⟨cb, 0, none⟩)) := n1.cell (i := 0) rfl
  have l0 := n0.lt
  have l1 := n1.lt
  have lm := h.blk.lt
  have c1 : w.cell? ⟨cb, 1, none⟩ = some (.slice sA sn sc) := h.blk.cell (i := 1) rfl
  have f1 := h.blk.frozen 1
  have c2 : w.cell? ⟨cb, 2, none⟩ = some (.int .i64 s1) := h.blk.cell (i := 2) rfl
  have f2 := h.blk.frozen 2
  have c3 : w.cell? ⟨cb, 3, none⟩ = some (.int .i64 s2) := h.blk.cell (i := 3) rfl
  have f3 := h.blk.frozen 3
  have hC : CellAt 144 (((w.setCell ⟨cb, 1, none⟩ (.slice yA yn yc)).setCell ⟨cb, 2, none⟩ (.int .i64 y1)).setCell ⟨cb, 3, none⟩ (.int .i64 y2)) B cb lo [.slice yA yn yc, .int .i64 y1, .int .i64 y2] := ⟨h.hB, (((h.blk.set 1 (.slice yA yn yc)).set 2 (.int .i64 y1)).set 3 (.int .i64 y2))⟩
  have hS : Stp (fun b => b = cb) w (((w.setCell ⟨cb, 1, none⟩ (.slice yA yn yc)).setCell ⟨cb, 2, none⟩ (.int .i64 y1)).setCell ⟨cb, 3, none⟩ (.int .i64 y2)) := (((((Stp.set (S := fun b => b = cb) rfl 1 _)).trans (Stp.set (S := fun b => b = cb) rfl 2 _) (fun _ _ h => h))).trans (Stp.set (S := fun b => b = cb) rfl 3 _) (fun _ _ h => h))
  unfold ptrV
  clear h hv n0 n1
  replace hC := Lib.hid hC
  replace hS := Lib.hid hS
  go_enter Tryz.func128, Tryz.ntmps128
  go_wp2
  go_end0
  exact ⟨rfl, hC.out, hS.out⟩
/-- What Set has made when it comes to its note. -/
theorem set_pre (sA : Option Addr) (sn sc : Nat) (s1 s2 : Int) (yA : Option Addr) (yn yc : Nat) (y1 y2 : Int) (h : CellAt 144 w B cb lo [.slice sA sn sc, .int .i64 s1, .int .i64 s2]) : ∃ w1, (((w.alloc (.cells #[.pointer (some ⟨cb, 0, none⟩)] 108)).alloc (.cells #[.slice yA yn yc, .int .i64 y1, .int .i64 y2] 103)).alloc (.cells #[.slice sA sn sc, .int .i64 s1, .int .i64 s2] 103)) = w1 ∧
    NoteAt w1 cb (.func (.func 128) #[] #[.pointer (some ⟨w.heap.size + 2, 0, none⟩), .pointer (some ⟨w.heap.size, 0, none⟩)]) [.slice sA sn sc, .int .i64 s1, .int .i64 s2] ∧ Below w.heap.size w w1 ∧ Blk w1 w.heap.size [ptrV cb] 108 ∧ CellAt 144 w1 B cb lo [.slice sA sn sc, .int .i64 s1, .int .i64 s2] ∧ Blk w1 (w.heap.size + 1) [.slice yA yn yc, .int .i64 y1, .int .i64 y2] 103 := by
  have hs1 : (w.alloc (.cells #[.pointer (some ⟨cb, 0, none⟩)] 108)).heap.size = w.heap.size + 1 := by simp
  have b1 : Blk (w.alloc (.cells #[.pointer (some ⟨cb, 0, none⟩)] 108)) w.heap.size [ptrV cb] 108 := Blk.new w _ _
  have hs2 : ((w.alloc (.cells #[.pointer (some ⟨cb, 0, none⟩)] 108)).alloc (.cells #[.slice yA yn yc, .int .i64 y1, .int .i64 y2] 103)).heap.size = w.heap.size + 2 := by simp
  have b1' : Blk ((w.alloc (.cells #[.pointer (some ⟨cb, 0, none⟩)] 108)).alloc (.cells #[.slice yA yn yc, .int .i64 y1, .int .i64 y2] 103)) w.heap.size [ptrV cb] 108 := b1.alloc _
  have b3 : Blk ((w.alloc (.cells #[.pointer (some ⟨cb, 0, none⟩)] 108)).alloc (.cells #[.slice yA yn yc, .int .i64 y1, .int .i64 y2] 103)) (w.heap.size + 1) [.slice yA yn yc, .int .i64 y1, .int .i64 y2] 103 := by rw [← hs1]; exact Blk.new _ _ _
  have b2 : Blk (((w.alloc (.cells #[.pointer (some ⟨cb, 0, none⟩)] 108)).alloc (.cells #[.slice yA yn yc, .int .i64 y1, .int .i64 y2] 103)).alloc (.cells #[.slice sA sn sc, .int .i64 s1, .int .i64 s2] 103)) (w.heap.size + 2) [.slice sA sn sc, .int .i64 s1, .int .i64 s2] 103 := by rw [← hs2]; exact Blk.new _ _ _
  have hb := (((Below.refl w.heap.size w).alloc (Nat.le_refl _) (.cells #[.pointer (some ⟨cb, 0, none⟩)] 108)).alloc (by simp) (.cells #[.slice yA yn yc, .int .i64 y1, .int .i64 y2] 103)).alloc (by simp; omega) (.cells #[.slice sA sn sc, .int .i64 s1, .int .i64 s2] 103)
  exact ⟨_, rfl, ⟨_, _, rfl, b2, b1'.alloc _⟩, hb, b1'.alloc _, ⟨h.hB, (hb.block cb h.blk.lt).trans h.blk⟩, b3.alloc _⟩
set_option maxRecDepth 100000 in
theorem Set_bad (sA : Option Addr) (sn sc : Nat) (s1 s2 : Int) (yA : Option Addr) (yn yc : Nat) (y1 y2 : Int) (h : CellAt 144 w B cb lo [.slice sA sn sc, .int .i64 s1, .int .i64 s2]) (r : Int) (hr : 0 < r) (R : Array Value → World → World → Prop)
    (hN : ∀ w1 cap, NoteAt w1 cb (.func (.func 128) #[] cap) [.slice sA sn sc, .int .i64 s1, .int .i64 s2] → Below w.heap.size w w1 → Calls Tryz.prog 126 #[.pointer lo, (.func (.func 128) #[] cap)] w1 fun e w' => e = .returned (.int .i64 r) ∧ R cap w1 w') :
    Calls Tryz.prog 96 #[ptrV cb, .agg #[.slice yA yn yc, .int .i64 y1, .int .i64 y2]] w fun e w' => e = .returned (.int .i64 r) ∧ ∃ cap w1, NoteAt w1 cb (.func (.func 128) #[] cap) [.slice sA sn sc, .int .i64 s1, .int .i64 s2] ∧ Below w.heap.size w w1 ∧ R cap w1 w' := by
  obtain ⟨w1, hw1, hnt, hb, b1, hC, b3⟩ := set_pre sA sn sc s1 s2 yA yn yc y1 y2 h
  have hn := hN w1 _ hnt hb
  have c1 : w.cell? ⟨cb, 1, none⟩ = some (.slice sA sn sc) := h.blk.cell (i := 1) rfl
  have c2 : w.cell? ⟨cb, 2, none⟩ = some (.int .i64 s1) := h.blk.cell (i := 2) rfl
  have c3 : w.cell? ⟨cb, 3, none⟩ = some (.int .i64 s2) := h.blk.cell (i := 3) rfl
  have lm := h.blk.lt
  have d0 : w1.cell? ⟨cb, 0, none⟩ = some (.pointer lo) := hC.blk.cell (i := 0) rfl
  have dl := hC.blk.lt
  have e0 : w1.cell? ⟨w.heap.size, 0, none⟩ = some (.pointer (some ⟨cb, 0, none⟩)) := b1.cell (i := 0) rfl
  have el := b1.lt
  have hnt2 := hnt
  have hne : (r == 0) = false := by rw [beq_eq_false_iff_ne]; omega
  have hne2 : (r != 0) = true := by rw [bne_iff_ne]; omega
  replace hn := Lib.hid hn
  replace hnt2 := Lib.hid hnt2
  replace hb := Lib.hid hb
  replace hw1 := Lib.hid hw1
  have hmf : ∀ (fn : Fn) (first cap : Array Value) (w : World), (Instr.makeFunc fn first cap).run Tryz.prog w = .ok (.func fn first cap) w := fun _ _ _ _ => rfl
  unfold ptrV
  clear hN h hnt hC b1 b3
  go_enter Tryz.func96, Tryz.ntmps96
  go_upto_region 4 with fail
  rw [hw1.out]
  clear c1 c2 c3
  go_wp2_with fail
  refine hn.out.mono ?_
  rintro e w' ⟨rfl, hR⟩
  replace hR := Lib.hid hR
  clear d0 e0
  go_wp2
  go_ret
  exact ⟨rfl, _, w1, hnt2.out, hb.out, hR.out⟩
set_option maxRecDepth 100000 in
theorem Set_ok (sA : Option Addr) (sn sc : Nat) (s1 s2 : Int) (yA : Option Addr) (yn yc : Nat) (y1 y2 : Int) (h : CellAt 144 w B cb lo [.slice sA sn sc, .int .i64 s1, .int .i64 s2]) (R : Array Value → World → World → Prop)
    (hN : ∀ w1 cap, NoteAt w1 cb (.func (.func 128) #[] cap) [.slice sA sn sc, .int .i64 s1, .int .i64 s2] → Below w.heap.size w w1 → Calls Tryz.prog 126 #[.pointer lo, (.func (.func 128) #[] cap)] w1 fun e w' => e = .returned (.int .i64 0) ∧ R cap w1 w')
    (hM : ∀ cap w1 w', Below w.heap.size w w1 → R cap w1 w' → CellAt 144 w' B cb lo [.slice sA sn sc, .int .i64 s1, .int .i64 s2] ∧ ∀ b cur t, Blk w1 b cur t → NoteT t → Blk w' b cur t) :
    Calls Tryz.prog 96 #[ptrV cb, .agg #[.slice yA yn yc, .int .i64 y1, .int .i64 y2]] w fun e w' => e = .returned (.int .i64 0) ∧ CellAt 144 w' B cb lo [.slice yA yn yc, .int .i64 y1, .int .i64 y2] ∧ ∃ cap w1 w2, NoteAt w1 cb (.func (.func 128) #[] cap) [.slice sA sn sc, .int .i64 s1, .int .i64 s2] ∧ Below w.heap.size w w1 ∧ R cap w1 w2 ∧ Stp (fun b => b = cb) w2 w' := by
  obtain ⟨w1, hw1, hnt, hb, b1, hC, b3⟩ := set_pre sA sn sc s1 s2 yA yn yc y1 y2 h
  have hn := hN w1 _ hnt hb
  have c1 : w.cell? ⟨cb, 1, none⟩ = some (.slice sA sn sc) := h.blk.cell (i := 1) rfl
  have c2 : w.cell? ⟨cb, 2, none⟩ = some (.int .i64 s1) := h.blk.cell (i := 2) rfl
  have c3 : w.cell? ⟨cb, 3, none⟩ = some (.int .i64 s2) := h.blk.cell (i := 3) rfl
  have lm := h.blk.lt
  have d0 : w1.cell? ⟨cb, 0, none⟩ = some (.pointer lo) := hC.blk.cell (i := 0) rfl
  have dl := hC.blk.lt
  have e0 : w1.cell? ⟨w.heap.size, 0, none⟩ = some (.pointer (some ⟨cb, 0, none⟩)) := b1.cell (i := 0) rfl
  have el := b1.lt
  have hnt2 := hnt
  have hM1 := fun cap w' => hM cap w1 w' hb
  replace hM1 := Lib.hid hM1
  replace hn := Lib.hid hn
  replace hnt2 := Lib.hid hnt2
  replace hb := Lib.hid hb
  replace hw1 := Lib.hid hw1
  replace b1 := Lib.hid b1
  replace b3 := Lib.hid b3
  have hmf : ∀ (fn : Fn) (first cap : Array Value) (w : World), (Instr.makeFunc fn first cap).run Tryz.prog w = .ok (.func fn first cap) w := fun _ _ _ _ => rfl
  unfold ptrV
  clear hN h hnt hC hM
  go_enter Tryz.func96, Tryz.ntmps96
  go_upto_region 4 with fail
  rw [hw1.out]
  clear c1 c2 c3
  go_wp2_with fail
  refine hn.out.mono ?_
  rintro e w2 ⟨rfl, hR⟩
  obtain ⟨hC2, hK2⟩ := hM1.out _ _ hR
  have b2 : Blk w2 w.heap.size [ptrV cb] 108 := hK2 _ _ _ b1.out (.inr rfl)
  clear d0 e0 dl el
  have e0 : w2.cell? ⟨w.heap.size, 0, none⟩ = some (.pointer (some ⟨cb, 0, none⟩)) := b2.cell (i := 0) rfl
  have el := b2.lt
  have b4 : Blk w2 (w.heap.size + 1) [.slice yA yn yc, .int .i64 y1, .int .i64 y2] 103 := hK2 _ _ _ b3.out (.inl rfl)
  have el2 := b4.lt
  have g0 : w2.cell? ⟨w.heap.size + 1, 0, none⟩ = some (.slice yA yn yc) := b4.cell (i := 0) rfl
  have g1 : w2.cell? ⟨w.heap.size + 1, 1, none⟩ = some (.int .i64 y1) := b4.cell (i := 1) rfl
  have g2 : w2.cell? ⟨w.heap.size + 1, 2, none⟩ = some (.int .i64 y2) := b4.cell (i := 2) rfl
  have d1 : w2.cell? ⟨cb, 1, none⟩ = some (.slice sA sn sc) := hC2.blk.cell (i := 1) rfl
  have f1 := hC2.blk.frozen 1
  have d2 : w2.cell? ⟨cb, 2, none⟩ = some (.int .i64 s1) := hC2.blk.cell (i := 2) rfl
  have f2 := hC2.blk.frozen 2
  have d3 : w2.cell? ⟨cb, 3, none⟩ = some (.int .i64 s2) := hC2.blk.cell (i := 3) rfl
  have f3 := hC2.blk.frozen 3
  have dl := hC2.blk.lt
  have hC3 : CellAt 144 (((w2.setCell ⟨cb, 1, none⟩ (.slice yA yn yc)).setCell ⟨cb, 2, none⟩ (.int .i64 y1)).setCell ⟨cb, 3, none⟩ (.int .i64 y2)) B cb lo [.slice yA yn yc, .int .i64 y1, .int .i64 y2] := ⟨hC2.hB, (((hC2.blk.set 1 (.slice yA yn yc)).set 2 (.int .i64 y1)).set 3 (.int .i64 y2))⟩
  have hS : Stp (fun b => b = cb) w2 (((w2.setCell ⟨cb, 1, none⟩ (.slice yA yn yc)).setCell ⟨cb, 2, none⟩ (.int .i64 y1)).setCell ⟨cb, 3, none⟩ (.int .i64 y2)) := (((((Stp.set (S := fun b => b = cb) rfl 1 _)).trans (Stp.set (S := fun b => b = cb) rfl 2 _) (fun _ _ h => h))).trans (Stp.set (S := fun b => b = cb) rfl 3 _) (fun _ _ h => h))
  replace hR := Lib.hid hR
  replace hC3 := Lib.hid hC3
  replace hS := Lib.hid hS
  clear hC2 hK2 b2 b4
  go_wp2
  go_ret
  exact ⟨rfl, hC3.out, _, w1, w2, hnt2.out, hb.out, hR.out, hS.out⟩
end
end Go.Proofs.YtigmdfdcflkggaaGreat.CG
