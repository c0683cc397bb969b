/-
  Set and Delete of a map, Set of a cell, by what their note comes to; and what notes do. Conditions: none.
-/
import Derived.Test.YtcobfimafpfbpaaUdNotes
import Derived.StillTailTactics
namespace Go.Proofs.Ytcobfimafpfbpaa
open Go Go.RowKit Go.ChangeMaps

section
variable {w w' : World} {B mb cb ob : Nat} {lo : Option Addr} {es : Es} {s : ByteArray}
theorem MapAt.put (h : MapAt w B mb lo ob es) (k : ByteArray) (v : Int) (o : Obj) (hk : KMap (setBlock w ob o) ob .string encS (putK (encE es) k (.int .i64 v))) : MapAt (setBlock w ob o) B mb lo ob (putK es k v) :=
  ⟨h.hB, h.hO, (setB_other (fun e => by have := h.blk; rw [e] at this; exact absurd this h.map.no_cells) o).trans h.blk, by
    have := putK_map (fun v => Value.int .i64 v) es k v
    unfold encE at hk ⊢
    rw [← this]; exact hk⟩
theorem MapAt.del (h : MapAt w B mb lo ob es) (k : ByteArray) (o : Obj) (hk : KMap (setBlock w ob o) ob .string encS ((encE es).filter fun p => p.1 ≠ k)) : MapAt (setBlock w ob o) B mb lo ob (dropK es k) :=
  ⟨h.hB, h.hO, (setB_other (fun e => by have := h.blk; rw [e] at this; exact absurd this h.map.no_cells) o).trans h.blk, by
    have := dropK_map (fun v => Value.int .i64 v) es k
    unfold encE at hk ⊢
    rw [← this]; exact hk⟩

set_option maxRecDepth 100000 in
theorem do_put (h : MapAt w B mb lo ob es) {cap : Array Value} {k : ByteArray} {x : Int} {Q : Nat → Prop} (n : NoteAt w Q mb cb (.func (.func 60) #[] cap) (.put k x)) :
    Calls Try.prog 60 cap w fun e w' => e = .returned (.tuple #[]) ∧ MapAt w' B mb lo ob (putK es k x) ∧ Stp (fun b => b = ob) w w' := by
  obtain ⟨b0, b1, b2, b3, hv, _, n0, n1, n2, n3⟩ := n
  obtain ⟨_, _, rfl⟩ := Value.func.inj hv
  have q0 : w.cell? ⟨b0, 0, none⟩ = some (.bool true) := n0.cell (i := 0) rfl
  have q1 : w.cell? ⟨b1, 0, none⟩ = some (.int .i64 x) := n1.cell (i := 0) rfl
  have q2 : w.cell? ⟨b2, 0, none⟩ = some (.pointer (some ⟨mb, 0, none⟩)) := n2.cell (i := 0) rfl
  have q3 : w.cell? ⟨b3, 0, none⟩ = some (.string k) := n3.cell (i := 0) rfl
  have l0 := n0.lt
  have l1 := n1.lt
  have l2 := n2.lt
  have l3 := n3.lt
  have lm := h.blk.lt
  have c1 : w.cell? ⟨mb, 1, none⟩ = some (.map (some ob)) := h.blk.cell (i := 1) rfl
  have hm : MapAt (w.drewN 1) B mb lo ob es := h.keep rfl rfl
  unfold ptrV
  clear h hv n0 n1 n2 n3
  replace hm := Lib.hid hm
  go_enter Try.func60, Try.ntmps60
  go_wp2_with fail
  go_still_tail 6, (by kernel_rfl)
  change wpList _ _ _ _ _ (w.drewN 1)
  refine wpList_set_k rfl _ _ _ 83 rfl 9 3 keyS Try.underlying83 Try.underlying9 rfl hm.out.map k rfl (.int .i64 x) rfl ?_
  intro o hk
  have hM := hm.out.put k x o hk
  have hS : Stp (fun b => b = ob) w (setBlock (w.drewN 1) ob o) := (Stp.drewN _ w 1).trans (Stp.setB (S := fun b => b = ob) rfl o) (fun _ _ h => h)
  generalize setBlock (w.drewN 1) ob o = w2 at hM hS ⊢
  clear hk
  replace hM := Lib.hid hM
  replace hS := Lib.hid hS
  go_wp2
  go_end0
  exact ⟨rfl, hM.out, hS.out⟩
set_option maxRecDepth 100000 in
theorem do_del (h : MapAt w B mb lo ob es) {cap : Array Value} {k : ByteArray} {Q : Nat → Prop} (n : NoteAt w Q mb cb (.func (.func 60) #[] cap) (.del k)) :
    Calls Try.prog 60 cap w fun e w' => e = .returned (.tuple #[]) ∧ MapAt w' B mb lo ob (dropK es k) ∧ Stp (fun b => b = ob) w w' := by
  obtain ⟨b0, b1, b2, b3, hv, n0, n2, n3⟩ := n
  obtain ⟨_, _, rfl⟩ := Value.func.inj hv
  have q0 : w.cell? ⟨b0, 0, none⟩ = some (.bool false) := n0.cell (i := 0) rfl
  have q2 : w.cell? ⟨b2, 0, none⟩ = some (.pointer (some ⟨mb, 0, none⟩)) := n2.cell (i := 0) rfl
  have q3 : w.cell? ⟨b3, 0, none⟩ = some (.string k) := n3.cell (i := 0) rfl
  have l0 := n0.lt
  have l2 := n2.lt
  have l3 := n3.lt
  have lm := h.blk.lt
  have c1 : w.cell? ⟨mb, 1, none⟩ = some (.map (some ob)) := h.blk.cell (i := 1) rfl
  have hm : MapAt (w.drewN 1) B mb lo ob es := h.keep rfl rfl
  unfold ptrV
  clear h hv n0 n2 n3
  replace hm := Lib.hid hm
  go_enter Try.func60, Try.ntmps60
  go_wp2_with fail
  go_still_tail 5, (by kernel_rfl)
  change wpList _ _ _ _ _ (w.drewN 1)
  refine wpList_del_k rfl _ _ 83 9 rfl 3 keyS Try.underlying83 Try.underlying9 rfl hm.out.map k rfl ?_
  intro o hk
  have hM := hm.out.del k o hk
  have hS : Stp (fun b => b = ob) w (setBlock (w.drewN 1) ob o) := (Stp.drewN _ w 1).trans (Stp.setB (S := fun b => b = ob) rfl o) (fun _ _ h => h)
  generalize setBlock (w.drewN 1) ob o = w2 at hM hS ⊢
  clear hk
  replace hM := Lib.hid hM
  replace hS := Lib.hid hS
  go_wp2
  go_end0
  exact ⟨rfl, hM.out, hS.out⟩
set_option maxRecDepth 100000 in
theorem do_cell (h : CellAt w B cb lo s) {cap : Array Value} {x : ByteArray} {Q : Nat → Prop} (n : NoteAt w Q mb cb (.func (.func 52) #[] cap) (.cell x)) :
    Calls Try.prog 52 cap w fun e w' => e = .returned (.tuple #[]) ∧ CellAt w' B cb lo x ∧ Stp (fun b => b = cb) w w' := by
  obtain ⟨b0, b1, hv, n0, n1⟩ := n
  obtain ⟨_, _, rfl⟩ := Value.func.inj hv
  have q0 : w.cell? ⟨b0, 0, none⟩ = some (.string x) := n0.cell (i := 0) rfl
  have q1 : w.cell? ⟨b1, 0, none⟩ = some (.pointer (some ⟨cb, 0, none⟩)) := n1.cell (i := 0) rfl
  have l0 := n0.lt
  have l1 := n1.lt
  have lm := h.blk.lt
  have c1 : w.cell? ⟨cb, 1, none⟩ = some (.string s) := h.blk.cell (i := 1) rfl
  have f1 := h.blk.frozen 1
  have hC : CellAt (w.setCell ⟨cb, 1, none⟩ (.string x)) B cb lo x := ⟨h.hB, h.blk.set 1 (.string x)⟩
  have hS : Stp (fun b => b = cb) w (w.setCell ⟨cb, 1, none⟩ (.string x)) := Stp.set (S := fun b => b = cb) rfl 1 _
  unfold ptrV
  clear h hv n0 n1
  replace hC := Lib.hid hC
  replace hS := Lib.hid hS
  go_enter Try.func52, Try.ntmps52
  go_wp2
  go_end0
  exact ⟨rfl, hC.out, hS.out⟩

set_option maxRecDepth 100000 in
theorem Set_nil (k : ByteArray) (v : Int) (w : World) :
    Calls Try.prog 28 #[.pointer none, .string k, .int .i64 v] w fun e w' => e = .returned (.int .i64 2) ∧ w' = w := by
  go_enter Try.func28, Try.ntmps28
  go_wp2
  go_ret
  exact ⟨rfl, rfl⟩
set_option maxRecDepth 100000 in
theorem Set_bad (k : ByteArray) (v : Int) (h : MapAt w B mb lo ob es) (cb : Nat) (r : Int) (hr : 0 < r) (R : Array Value → World → World → Prop)
    (hN : ∀ w1 cap, NoteAt w1 (fun b => w.heap.size ≤ b) mb cb (.func (.func 60) #[] cap) (ntOf es k) → Below w.heap.size w w1 → Calls Try.prog 23 #[.pointer lo, .func (.func 60) #[] cap] w1 fun e w' => e = .returned (.int .i64 r) ∧ R cap w1 w') :
    Calls Try.prog 28 #[ptrV mb, .string k, .int .i64 v] w fun e w' => e = .returned (.int .i64 r) ∧ ∃ cap w1, NoteAt w1 (fun b => w.heap.size ≤ b) mb cb (.func (.func 60) #[] cap) (ntOf es k) ∧ Below w.heap.size w w1 ∧ R cap w1 w' := by
  have hn := note_any h cb k r R hN
  have hne : (r == 0) = false := by rw [beq_eq_false_iff_ne]; omega
  have hne2 : (r != 0) = true := by rw [bne_iff_ne]; omega
  replace hn := Lib.hid hn
  unfold ptrV at hn ⊢
  clear hN h
  go_enter Try.func28, Try.ntmps28
  go_wp2_with fail
  refine (oneZero_any k _).mono ?_
  rintro e w' ⟨rfl, hw⟩
  obtain rfl := hw.symm
  go_wp2_with fail
  refine hn.out.mono ?_
  rintro e w' ⟨rfl, hR⟩
  replace hR := Lib.hid hR
  go_wp2
  go_ret
  exact ⟨rfl, hR.out⟩
set_option maxRecDepth 100000 in
theorem Set_ok (k : ByteArray) (v : Int) (h : MapAt w B mb lo ob es) (cb : Nat) (R : Array Value → World → World → Prop)
    (hN : ∀ w1 cap, NoteAt w1 (fun b => w.heap.size ≤ b) mb cb (.func (.func 60) #[] cap) (ntOf es k) → Below w.heap.size w w1 → Calls Try.prog 23 #[.pointer lo, .func (.func 60) #[] cap] w1 fun e w' => e = .returned (.int .i64 0) ∧ R cap w1 w')
    (hM : ∀ cap w1 w', Below w.heap.size w w1 → R cap w1 w' → MapAt w' B mb lo ob es) :
    Calls Try.prog 28 #[ptrV mb, .string k, .int .i64 v] w fun e w' => e = .returned (.int .i64 0) ∧ MapAt w' B mb lo ob (putK es k v) ∧ ∃ cap w1 w2, NoteAt w1 (fun b => w.heap.size ≤ b) mb cb (.func (.func 60) #[] cap) (ntOf es k) ∧ Below w.heap.size w w1 ∧ R cap w1 w2 ∧ Stp (fun b => b = ob) w2 w' := by
  have hn := note_any h cb k 0 R hN
  replace hn := Lib.hid hn
  replace hM := Lib.hid hM
  unfold ptrV at hn ⊢
  clear hN h
  go_enter Try.func28, Try.ntmps28
  go_wp2_with fail
  refine (oneZero_any k _).mono ?_
  rintro e w' ⟨rfl, hw⟩
  obtain rfl := hw.symm
  go_wp2_with fail
  refine hn.out.mono ?_
  rintro e w2 ⟨rfl, cap, w1, hnt, hb, hR⟩
  have hM2 := hM.out cap w1 w2 hb hR
  have c1 : w2.cell? ⟨mb, 1, none⟩ = some (.map (some ob)) := hM2.blk.cell (i := 1) rfl
  have lm := hM2.blk.lt
  replace hM2 := Lib.hid hM2
  replace hnt := Lib.hid hnt
  replace hb := Lib.hid hb
  replace hR := Lib.hid hR
  go_wp2_with (at_mapUpdate; go_loud (refine wpList_set_k rfl _ _ _ 83 rfl 9 3 keyS Try.underlying83 Try.underlying9 rfl hM2.out.map k rfl (.int .i64 v) rfl ?_); intro o hk; refine Hid.out ?_)
  refine Lib.hid ?_
  have hM3 := hM2.out.put k v o hk
  have hS : Stp (fun b => b = ob) w2 (setBlock w2 ob o) := Stp.setB (S := fun b => b = ob) rfl o
  generalize setBlock w2 ob o = w3 at hM3 hS ⊢
  clear hk c1
  replace hM3 := Lib.hid hM3
  replace hS := Lib.hid hS
  go_wp2
  go_ret
  exact ⟨rfl, hM3.out, cap, w1, w2, hnt.out, hb.out, hR.out, hS.out⟩
end
end Go.Proofs.Ytcobfimafpfbpaa
