/-
  A cell of a log, of string: New, Get, Set, and its notes. Conditions: none.
-/
import Derived.Test.YtigmdfdcflkggaaGreatStMem
namespace Go.Proofs.YtigmdfdcflkggaaGreat.CS
open Go Go.RowKit Go.ChangeMaps

/-- A note in memory: its closure, and the cells that it has caught. -/
def NoteAt (w : World) (cb : Nat) (v : Value) (cs : List Value) : Prop := ∃ b0 b1, v = .func (.func 127) #[] #[ptrV b0, ptrV b1] ∧ Blk w b0 cs 9 ∧ Blk w b1 [ptrV cb] 107
def NoteT (t : TypeId) : Prop := t = 9 ∨ t = 107
theorem NoteAt.keep {w w' : World} {cb : Nat} {v : Value} {cs : List Value} (h : NoteAt w cb v cs) (hk : ∀ (b : Nat) cur t, Blk w b cur t → NoteT t → Blk w' b cur t) : NoteAt w' cb v cs := by
  obtain ⟨b0, b1, hv, h0, h1⟩ := h
  exact ⟨b0, b1, hv, hk _ _ _ h0 (.inl rfl), hk _ _ _ h1 (.inr rfl)⟩
section
variable {w w' : World} {B cb : Nat} {lo : Option Addr}
set_option maxRecDepth 100000 in
theorem New_any (lo : Option Addr) (y0 : ByteArray) (w : World) :
    Calls Tryz.prog 92 #[.pointer lo, .string y0] w fun e w' => ∃ b, e = .returned (ptrV b) ∧ CellAt 157 w' w.heap.size b lo [.string y0] ∧ Below w.heap.size w w' ∧ w'.heap.size ≤ w.heap.size + 2 := by
  have hm : CellAt 157 (w.alloc (.cells #[.pointer lo, .string y0] 157)) w.heap.size w.heap.size lo [.string y0] := ⟨Nat.le_refl _, Blk.new _ _ _⟩
  have hbl := (Below.refl w.heap.size w).alloc (Nat.le_refl _) (.cells #[.pointer lo, .string y0] 157)
  have hsz : (w.alloc (.cells #[.pointer lo, .string y0] 157)).heap.size ≤ w.heap.size + 2 := by simp
  replace hm := Lib.hid hm
  replace hbl := Lib.hid hbl
  replace hsz := Lib.hid hsz
  unfold ptrV
  go_enter Tryz.func92, Tryz.ntmps92
  go_wp2
  go_ret
  exact ⟨_, rfl, hm.out, hbl.out, hsz.out⟩
set_option maxRecDepth 100000 in
theorem Get_any (s0 : ByteArray) (h : CellAt 157 w B cb lo [.string s0]) :
    Calls Tryz.prog 115 #[ptrV cb] w fun e w' => e = .returned (.string s0) ∧ Below w.heap.size w w' := by
  have c1 : w.cell? ⟨cb, 1, none⟩ = some (.string s0) := h.blk.cell (i := 1) rfl
  have hlt := h.blk.lt
  unfold ptrV
  clear h
  go_enter Tryz.func115, Tryz.ntmps115
  go_wp2
  go_ret
  exact ⟨rfl, Below.refl _ w⟩
set_option maxRecDepth 100000 in
theorem do_cell (s0 : ByteArray) (y0 : ByteArray) (h : CellAt 157 w B cb lo [.string s0]) {cap : Array Value} (n : NoteAt w cb (.func (.func 127) #[] cap) [.string y0]) :
    Calls Tryz.prog 127 cap w fun e w' => e = .returned (.tuple #[]) ∧ CellAt 157 w' B cb lo [.string y0] ∧ Stp (fun b => b = cb) w w' := by
  obtain ⟨b0, b1, hv, n0, n1⟩ := n
  obtain ⟨_, _, rfl⟩ := Value.func.inj hv
  have q0 : w.cell? ⟨b0, 0, none⟩ = some (.string y0) := n0.cell (i := 0) rfl
  have r1 : w.cell? ⟨b1, 0, none⟩ = some (.pointer (some ⟨cb, 0, none⟩)) := n1.cell (i := 0) rfl
  have l0 := n0.lt
  have l1 := n1.lt
  have lm := h.blk.lt
  have c1 : w.cell? ⟨cb, 1, none⟩ = some (.string s0) := h.blk.cell (i := 1) rfl
  have f1 := h.blk.frozen 1
  have hC : CellAt 157 (w.setCell ⟨cb, 1, none⟩ (.string y0)) B cb lo [.string y0] := ⟨h.hB, (h.blk.set 1 (.string y0))⟩
  have hS : Stp (fun b => b = cb) w (w.setCell ⟨cb, 1, none⟩ (.string y0)) := (Stp.set (S := fun b => b = cb) rfl 1 _)
  unfold ptrV
  clear h hv n0 n1
  replace hC := Lib.hid hC
  replace hS := Lib.hid hS
  go_enter Tryz.func127, Tryz.ntmps127
  go_wp2
  go_end0
  exact ⟨rfl, hC.out, hS.out⟩
/-- What Set has made when it comes to its note. -/
theorem set_pre (s0 : ByteArray) (y0 : ByteArray) (h : CellAt 157 w B cb lo [.string s0]) : ∃ w1, ((w.alloc (.cells #[.pointer (some ⟨cb, 0, none⟩)] 107)).alloc (.cells #[.string s0] 9)) = w1 ∧
    NoteAt w1 cb (.func (.func 127) #[] #[.pointer (some ⟨w.heap.size + 1, 0, none⟩), .pointer (some ⟨w.heap.size, 0, none⟩)]) [.string s0] ∧ Below w.heap.size w w1 ∧ Blk w1 w.heap.size [ptrV cb] 107 ∧ CellAt 157 w1 B cb lo [.string s0] := by
  have hs1 : (w.alloc (.cells #[.pointer (some ⟨cb, 0, none⟩)] 107)).heap.size = w.heap.size + 1 := by simp
  have b1 : Blk (w.alloc (.cells #[.pointer (some ⟨cb, 0, none⟩)] 107)) w.heap.size [ptrV cb] 107 := Blk.new w _ _
  have b2 : Blk ((w.alloc (.cells #[.pointer (some ⟨cb, 0, none⟩)] 107)).alloc (.cells #[.string s0] 9)) (w.heap.size + 1) [.string s0] 9 := by rw [← hs1]; exact Blk.new _ _ _
  have hb := ((Below.refl w.heap.size w).alloc (Nat.le_refl _) (.cells #[.pointer (some ⟨cb, 0, none⟩)] 107)).alloc (by simp) (.cells #[.string s0] 9)
  exact ⟨_, rfl, ⟨_, _, rfl, b2, b1.alloc _⟩, hb, b1.alloc _, ⟨h.hB, (hb.block cb h.blk.lt).trans h.blk⟩⟩
set_option maxRecDepth 100000 in
theorem Set_bad (s0 : ByteArray) (y0 : ByteArray) (h : CellAt 157 w B cb lo [.string s0]) (r : Int) (hr : 0 < r) (R : Array Value → World → World → Prop)
    (hN : ∀ w1 cap, NoteAt w1 cb (.func (.func 127) #[] cap) [.string s0] → Below w.heap.size w w1 → Calls Tryz.prog 126 #[.pointer lo, (.func (.func 127) #[] cap)] w1 fun e w' => e = .returned (.int .i64 r) ∧ R cap w1 w') :
    Calls Tryz.prog 95 #[ptrV cb, .string y0] w fun e w' => e = .returned (.int .i64 r) ∧ ∃ cap w1, NoteAt w1 cb (.func (.func 127) #[] cap) [.string s0] ∧ Below w.heap.size w w1 ∧ R cap w1 w' := by
  obtain ⟨w1, hw1, hnt, hb, b1, hC⟩ := set_pre s0 y0 h
  have hn := hN w1 _ hnt hb
  have c1 : w.cell? ⟨cb, 1, none⟩ = some (.string s0) := h.blk.cell (i := 1) rfl
  have lm := h.blk.lt
  have d0 : w1.cell? ⟨cb, 0, none⟩ = some (.pointer lo) := hC.blk.cell (i := 0) rfl
  have dl := hC.blk.lt
  have e0 : w1.cell? ⟨w.heap.size, 0, none⟩ = some (.pointer (some ⟨cb, 0, none⟩)) := b1.cell (i := 0) rfl
  have el := b1.lt
  have hnt2 := hnt
  have hne : (r == 0) = false := by rw [beq_eq_false_iff_ne]; omega
  have hne2 : (r != 0) = true := by rw [bne_iff_ne]; omega
  replace hn := Lib.hid hn
  replace hnt2 := Lib.hid hnt2
  replace hb := Lib.hid hb
  replace hw1 := Lib.hid hw1
  have hmf : ∀ (fn : Fn) (first cap : Array Value) (w : World), (Instr.makeFunc fn first cap).run Tryz.prog w = .ok (.func fn first cap) w := fun _ _ _ _ => rfl
  unfold ptrV
  clear hN h hnt hC b1
  go_enter Tryz.func95, Tryz.ntmps95
  go_upto_region 4 with fail
  rw [hw1.out]
  clear c1
  go_wp2_with fail
  refine hn.out.mono ?_
  rintro e w' ⟨rfl, hR⟩
  replace hR := Lib.hid hR
  clear d0 e0
  go_wp2
  go_ret
  exact ⟨rfl, _, w1, hnt2.out, hb.out, hR.out⟩
set_option maxRecDepth 100000 in
theorem Set_ok (s0 : ByteArray) (y0 : ByteArray) (h : CellAt 157 w B cb lo [.string s0]) (R : Array Value → World → World → Prop)
    (hN : ∀ w1 cap, NoteAt w1 cb (.func (.func 127) #[] cap) [.string s0] → Below w.heap.size w w1 → Calls Tryz.prog 126 #[.pointer lo, (.func (.func 127) #[] cap)] w1 fun e w' => e = .returned (.int .i64 0) ∧ R cap w1 w')
    (hM : ∀ cap w1 w', Below w.heap.size w w1 → R cap w1 w' → CellAt 157 w' B cb lo [.string s0] ∧ ∀ b cur t, Blk w1 b cur t → NoteT t → Blk w' b cur t) :
    Calls Tryz.prog 95 #[ptrV cb, .string y0] w fun e w' => e = .returned (.int .i64 0) ∧ CellAt 157 w' B cb lo [.string y0] ∧ ∃ cap w1 w2, NoteAt w1 cb (.func (.func 127) #[] cap) [.string s0] ∧ Below w.heap.size w w1 ∧ R cap w1 w2 ∧ Stp (fun b => b = cb) w2 w' := by
  obtain ⟨w1, hw1, hnt, hb, b1, hC⟩ := set_pre s0 y0 h
  have hn := hN w1 _ hnt hb
  have c1 : w.cell? ⟨cb, 1, none⟩ = some (.string s0) := h.blk.cell (i := 1) rfl
  have lm := h.blk.lt
  have d0 : w1.cell? ⟨cb, 0, none⟩ = some (.pointer lo) := hC.blk.cell (i := 0) rfl
  have dl := hC.blk.lt
  have e0 : w1.cell? ⟨w.heap.size, 0, none⟩ = some (.pointer (some ⟨cb, 0, none⟩)) := b1.cell (i := 0) rfl
  have el := b1.lt
  have hnt2 := hnt
  have hM1 := fun cap w' => hM cap w1 w' hb
  replace hM1 := Lib.hid hM1
  replace hn := Lib.hid hn
  replace hnt2 := Lib.hid hnt2
  replace hb := Lib.hid hb
  replace hw1 := Lib.hid hw1
  replace b1 := Lib.hid b1
  skip
  have hmf : ∀ (fn : Fn) (first cap : Array Value) (w : World), (Instr.makeFunc fn first cap).run Tryz.prog w = .ok (.func fn first cap) w := fun _ _ _ _ => rfl
  unfold ptrV
  clear hN h hnt hC hM
  go_enter Tryz.func95, Tryz.ntmps95
  go_upto_region 4 with fail
  rw [hw1.out]
  clear c1
  go_wp2_with fail
  refine hn.out.mono ?_
  rintro e w2 ⟨rfl, hR⟩
  obtain ⟨hC2, hK2⟩ := hM1.out _ _ hR
  have b2 : Blk w2 w.heap.size [ptrV cb] 107 := hK2 _ _ _ b1.out (.inr rfl)
  clear d0 e0 dl el
  have e0 : w2.cell? ⟨w.heap.size, 0, none⟩ = some (.pointer (some ⟨cb, 0, none⟩)) := b2.cell (i := 0) rfl
  have el := b2.lt
  have d1 : w2.cell? ⟨cb, 1, none⟩ = some (.string s0) := hC2.blk.cell (i := 1) rfl
  have f1 := hC2.blk.frozen 1
  have dl := hC2.blk.lt
  have hC3 : CellAt 157 (w2.setCell ⟨cb, 1, none⟩ (.string y0)) B cb lo [.string y0] := ⟨hC2.hB, (hC2.blk.set 1 (.string y0))⟩
  have hS : Stp (fun b => b = cb) w2 (w2.setCell ⟨cb, 1, none⟩ (.string y0)) := (Stp.set (S := fun b => b = cb) rfl 1 _)
  replace hR := Lib.hid hR
  replace hC3 := Lib.hid hC3
  replace hS := Lib.hid hS
  clear hC2 hK2 b2
  go_wp2
  go_ret
  exact ⟨rfl, hC3.out, _, w1, w2, hnt2.out, hb.out, hR.out, hS.out⟩
end
end Go.Proofs.YtigmdfdcflkggaaGreat.CS
