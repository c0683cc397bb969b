/-
  Delete of a map, Set of a cell, by what their note comes to. Conditions: none.
-/
import Derived.Test.YtcobfimafpfbpaaUdSet
namespace Go.Proofs.Ytcobfimafpfbpaa
open Go Go.RowKit Go.ChangeMaps

section
variable {w w' : World} {B mb cb ob : Nat} {lo : Option Addr} {es : Es} {s : ByteArray}
set_option maxRecDepth 100000 in
theorem Delete_nil (k : ByteArray) (w : World) :
    Calls Try.prog 29 #[.pointer none, .string k] w fun e w' => e = .returned (.int .i64 2) ∧ w' = w := by
  go_enter Try.func29, Try.ntmps29
  go_wp2
  go_ret
  exact ⟨rfl, rfl⟩
set_option maxRecDepth 100000 in
theorem Delete_nolog (k : ByteArray) (h : MapAt w B mb none ob es) :
    Calls Try.prog 29 #[ptrV mb, .string k] w fun e w' => e = .returned (.int .i64 2) ∧ w' = w := by
  have c0 : w.cell? ⟨mb, 0, none⟩ = some (.pointer none) := h.blk.cell (i := 0) rfl
  have lm := h.blk.lt
  unfold ptrV
  clear h
  go_enter Try.func29, Try.ntmps29
  go_wp2_with fail
  refine (isNil_yes _).mono ?_
  rintro e w' ⟨rfl, hw⟩
  obtain rfl := hw.symm
  go_wp2
  go_ret
  exact ⟨rfl, rfl⟩
set_option maxRecDepth 100000 in
theorem Delete_none (k : ByteArray) (h : MapAt w B mb lo ob es) (hk : look es k = none)
    (hi : Calls Try.prog 42 #[.pointer lo] w fun e w' => e = .returned (.bool false) ∧ w' = w) :
    Calls Try.prog 29 #[ptrV mb, .string k] w fun e w' => e = .returned (.int .i64 0) ∧ w' = w := by
  have c0 : w.cell? ⟨mb, 0, none⟩ = some (.pointer lo) := h.blk.cell (i := 0) rfl
  have c1 : w.cell? ⟨mb, 1, none⟩ = some (.map (some ob)) := h.blk.cell (i := 1) rfl
  have lm := h.blk.lt
  have hf := h.find k
  rw [hk] at hf
  replace hf : (Instr.lookup 83 (.map (some ob)) (.string k) true).run Try.prog w = .ok (.tuple #[.int .i64 0, .bool false]) w := hf
  unfold ptrV
  clear h hk
  go_enter Try.func29, Try.ntmps29
  go_wp2_with fail
  refine hi.mono ?_
  rintro e w' ⟨rfl, hw⟩
  obtain rfl := hw.symm
  go_wp2
  go_ret
  exact ⟨rfl, rfl⟩
set_option maxRecDepth 100000 in
theorem Delete_bad (k : ByteArray) (h : MapAt w B mb lo ob es) (x : Int) (hk : look es k = some x)
    (hi : Calls Try.prog 42 #[.pointer lo] w fun e w' => e = .returned (.bool false) ∧ w' = w) (cb : Nat) (r : Int) (hr : 0 < r) (R : Array Value → World → World → Prop)
    (hN : ∀ w1 cap, NoteAt w1 (fun b => w.heap.size ≤ b) mb cb (.func (.func 60) #[] cap) (ntOf es k) → Below w.heap.size w w1 → Calls Try.prog 23 #[.pointer lo, .func (.func 60) #[] cap] w1 fun e w' => e = .returned (.int .i64 r) ∧ R cap w1 w') :
    Calls Try.prog 29 #[ptrV mb, .string k] w fun e w' => e = .returned (.int .i64 r) ∧ ∃ cap w1, NoteAt w1 (fun b => w.heap.size ≤ b) mb cb (.func (.func 60) #[] cap) (ntOf es k) ∧ Below w.heap.size w w1 ∧ R cap w1 w' := by
  have hn := note_any h cb k r R hN
  have hne : (r == 0) = false := by rw [beq_eq_false_iff_ne]; omega
  have hne2 : (r != 0) = true := by rw [bne_iff_ne]; omega
  have c0 : w.cell? ⟨mb, 0, none⟩ = some (.pointer lo) := h.blk.cell (i := 0) rfl
  have c1 : w.cell? ⟨mb, 1, none⟩ = some (.map (some ob)) := h.blk.cell (i := 1) rfl
  have lm := h.blk.lt
  have hf := h.find k
  rw [hk] at hf
  replace hf : (Instr.lookup 83 (.map (some ob)) (.string k) true).run Try.prog w = .ok (.tuple #[.int .i64 x, .bool true]) w := hf
  replace hn := Lib.hid hn
  unfold ptrV at hn ⊢
  clear hN h hk
  go_enter Try.func29, Try.ntmps29
  go_wp2_with fail
  refine hi.mono ?_
  rintro e w' ⟨rfl, hw⟩
  obtain rfl := hw.symm
  go_wp2_with fail
  refine (oneZero_any k _).mono ?_
  rintro e w' ⟨rfl, hw⟩
  obtain rfl := hw.symm
  go_wp2_with fail
  refine hn.out.mono ?_
  rintro e w' ⟨rfl, hR⟩
  replace hR := Lib.hid hR
  go_wp2
  go_ret
  exact ⟨rfl, hR.out⟩
set_option maxRecDepth 100000 in
theorem Delete_ok (k : ByteArray) (h : MapAt w B mb lo ob es) (x : Int) (hk : look es k = some x)
    (hi : Calls Try.prog 42 #[.pointer lo] w fun e w' => e = .returned (.bool false) ∧ w' = w) (cb : Nat) (R : Array Value → World → World → Prop)
    (hN : ∀ w1 cap, NoteAt w1 (fun b => w.heap.size ≤ b) mb cb (.func (.func 60) #[] cap) (ntOf es k) → Below w.heap.size w w1 → Calls Try.prog 23 #[.pointer lo, .func (.func 60) #[] cap] w1 fun e w' => e = .returned (.int .i64 0) ∧ R cap w1 w')
    (hM : ∀ cap w1 w', Below w.heap.size w w1 → R cap w1 w' → MapAt w' B mb lo ob es) :
    Calls Try.prog 29 #[ptrV mb, .string k] w fun e w' => e = .returned (.int .i64 0) ∧ MapAt w' B mb lo ob (dropK es k) ∧ ∃ cap w1 w2, NoteAt w1 (fun b => w.heap.size ≤ b) mb cb (.func (.func 60) #[] cap) (ntOf es k) ∧ Below w.heap.size w w1 ∧ R cap w1 w2 ∧ Stp (fun b => b = ob) w2 w' := by
  have hn := note_any h cb k 0 R hN
  have c0 : w.cell? ⟨mb, 0, none⟩ = some (.pointer lo) := h.blk.cell (i := 0) rfl
  have c1 : w.cell? ⟨mb, 1, none⟩ = some (.map (some ob)) := h.blk.cell (i := 1) rfl
  have lm := h.blk.lt
  have hf := h.find k
  rw [hk] at hf
  replace hf : (Instr.lookup 83 (.map (some ob)) (.string k) true).run Try.prog w = .ok (.tuple #[.int .i64 x, .bool true]) w := hf
  replace hn := Lib.hid hn
  replace hM := Lib.hid hM
  unfold ptrV at hn ⊢
  clear hN h hk
  go_enter Try.func29, Try.ntmps29
  go_wp2_with fail
  refine hi.mono ?_
  rintro e w' ⟨rfl, hw⟩
  obtain rfl := hw.symm
  go_wp2_with fail
  refine (oneZero_any k _).mono ?_
  rintro e w' ⟨rfl, hw⟩
  obtain rfl := hw.symm
  clear c0 c1 hf
  go_wp2_with fail
  refine hn.out.mono ?_
  rintro e w2 ⟨rfl, cap, w1, hnt, hb, hR⟩
  have hM2 := hM.out cap w1 w2 hb hR
  have c1 : w2.cell? ⟨mb, 1, none⟩ = some (.map (some ob)) := hM2.blk.cell (i := 1) rfl
  have lm2 := hM2.blk.lt
  replace hM2 := Lib.hid hM2
  replace hnt := Lib.hid hnt
  replace hb := Lib.hid hb
  replace hR := Lib.hid hR
  go_wp2_with (at_delete; go_loud (refine wpList_del_k rfl _ _ 83 9 rfl 3 keyS Try.underlying83 Try.underlying9 rfl hM2.out.map k rfl ?_); intro o hk; refine Hid.out ?_)
  refine Lib.hid ?_
  have hM3 := hM2.out.del k o hk
  have hS : Stp (fun b => b = ob) w2 (setBlock w2 ob o) := Stp.setB (S := fun b => b = ob) rfl o
  generalize setBlock w2 ob o = w3 at hM3 hS ⊢
  clear hk c1
  replace hM3 := Lib.hid hM3
  replace hS := Lib.hid hS
  go_wp2
  go_ret
  exact ⟨rfl, hM3.out, cap, w1, w2, hnt.out, hb.out, hR.out, hS.out⟩

set_option maxRecDepth 100000 in
theorem CSet_nil (k : ByteArray) (w : World) :
    Calls Try.prog 31 #[.pointer none, .string k] w fun e w' => e = .returned (.int .i64 2) ∧ Below w.heap.size w w' := by
  have hb : Below w.heap.size w (w.alloc (.cells #[.pointer none] 27)) := (Below.refl _ w).alloc (Nat.le_refl _) _
  replace hb := Lib.hid hb
  go_enter Try.func31, Try.ntmps31
  go_wp2
  go_ret
  exact ⟨rfl, hb.out⟩
/-- What a cell's Set has made when it comes to its note. -/
theorem cset_pre (h : CellAt w B cb lo s) : ∃ w1, ((w.alloc (.cells #[.pointer (some ⟨cb, 0, none⟩)] 27)).alloc (.cells #[.string s] 9)) = w1 ∧
    (∀ mb, NoteAt w1 (fun b => w.heap.size ≤ b) mb cb (.func (.func 52) #[] #[.pointer (some ⟨w.heap.size + 1, 0, none⟩), .pointer (some ⟨w.heap.size, 0, none⟩)]) (.cell s)) ∧ Below w.heap.size w w1 ∧ Blk w1 w.heap.size [ptrV cb] 27 ∧ CellAt w1 B cb lo s := by
  have hs1 : (w.alloc (.cells #[.pointer (some ⟨cb, 0, none⟩)] 27)).heap.size = w.heap.size + 1 := by simp
  have b1 : Blk (w.alloc (.cells #[.pointer (some ⟨cb, 0, none⟩)] 27)) w.heap.size [ptrV cb] 27 := Blk.new w _ _
  have b2 : Blk ((w.alloc (.cells #[.pointer (some ⟨cb, 0, none⟩)] 27)).alloc (.cells #[.string s] 9)) (w.heap.size + 1) [.string s] 9 := by rw [← hs1]; exact Blk.new _ _ _
  have hb := ((Below.refl w.heap.size w).alloc (Nat.le_refl _) (.cells #[.pointer (some ⟨cb, 0, none⟩)] 27)).alloc (by simp) (.cells #[.string s] 9)
  exact ⟨_, rfl, fun mb => ⟨_, _, rfl, b2, b1.alloc _⟩, hb, b1.alloc _, ⟨h.hB, (hb.block cb h.blk.lt).trans h.blk⟩⟩
set_option maxRecDepth 100000 in
theorem CSet_bad (x : ByteArray) (h : CellAt w B cb lo s) (mb : Nat) (r : Int) (hr : 0 < r) (R : Array Value → World → World → Prop)
    (hN : ∀ w1 cap, NoteAt w1 (fun b => w.heap.size ≤ b) mb cb (.func (.func 52) #[] cap) (.cell s) → Below w.heap.size w w1 → Calls Try.prog 23 #[.pointer lo, .func (.func 52) #[] cap] w1 fun e w' => e = .returned (.int .i64 r) ∧ R cap w1 w') :
    Calls Try.prog 31 #[ptrV cb, .string x] w fun e w' => e = .returned (.int .i64 r) ∧ ∃ cap w1, NoteAt w1 (fun b => w.heap.size ≤ b) mb cb (.func (.func 52) #[] cap) (.cell s) ∧ Below w.heap.size w w1 ∧ R cap w1 w' := by
  obtain ⟨w1, hw1, hnt, hb, b1, hC⟩ := cset_pre h
  have hn := hN w1 _ (hnt mb) hb
  have hne : (r == 0) = false := by rw [beq_eq_false_iff_ne]; omega
  have hne2 : (r != 0) = true := by rw [bne_iff_ne]; omega
  have c1 : w.cell? ⟨cb, 1, none⟩ = some (.string s) := h.blk.cell (i := 1) rfl
  have lm := h.blk.lt
  have d0 : w1.cell? ⟨cb, 0, none⟩ = some (.pointer lo) := hC.blk.cell (i := 0) rfl
  have dl := hC.blk.lt
  have e0 : w1.cell? ⟨w.heap.size, 0, none⟩ = some (.pointer (some ⟨cb, 0, none⟩)) := b1.cell (i := 0) rfl
  have el := b1.lt
  have hnt2 := hnt mb
  replace hn := Lib.hid hn
  replace hnt2 := Lib.hid hnt2
  replace hb := Lib.hid hb
  replace hw1 := Lib.hid hw1
  have hmf : ∀ (fn : Fn) (first cap : Array Value) (w : World), (Instr.makeFunc fn first cap).run Try.prog w = .ok (.func fn first cap) w := fun _ _ _ _ => rfl
  unfold ptrV
  clear hN h hnt hC b1
  go_enter Try.func31, Try.ntmps31
  go_upto_region 4 with fail
  rw [hw1.out]
  clear c1
  go_wp2_with fail
  refine hn.out.mono ?_
  rintro e w' ⟨rfl, hR⟩
  replace hR := Lib.hid hR
  clear d0 e0
  go_wp2
  go_ret
  exact ⟨rfl, _, w1, hnt2.out, hb.out, hR.out⟩
set_option maxRecDepth 100000 in
theorem CSet_ok (x : ByteArray) (h : CellAt w B cb lo s) (mb : Nat) (R : Array Value → World → World → Prop)
    (hN : ∀ w1 cap, NoteAt w1 (fun b => w.heap.size ≤ b) mb cb (.func (.func 52) #[] cap) (.cell s) → Below w.heap.size w w1 → Calls Try.prog 23 #[.pointer lo, .func (.func 52) #[] cap] w1 fun e w' => e = .returned (.int .i64 0) ∧ R cap w1 w')
    (hM : ∀ cap w1 w', Below w.heap.size w w1 → R cap w1 w' → CellAt w' B cb lo s ∧ KeepN w1 w') :
    Calls Try.prog 31 #[ptrV cb, .string x] w fun e w' => e = .returned (.int .i64 0) ∧ CellAt w' B cb lo x ∧ ∃ cap w1 w2, NoteAt w1 (fun b => w.heap.size ≤ b) mb cb (.func (.func 52) #[] cap) (.cell s) ∧ Below w.heap.size w w1 ∧ R cap w1 w2 ∧ Stp (fun b => b = cb) w2 w' := by
  obtain ⟨w1, hw1, hnt, hb, b1, hC⟩ := cset_pre h
  have hn := hN w1 _ (hnt mb) hb
  have c1 : w.cell? ⟨cb, 1, none⟩ = some (.string s) := h.blk.cell (i := 1) rfl
  have lm := h.blk.lt
  have d0 : w1.cell? ⟨cb, 0, none⟩ = some (.pointer lo) := hC.blk.cell (i := 0) rfl
  have dl := hC.blk.lt
  have e0 : w1.cell? ⟨w.heap.size, 0, none⟩ = some (.pointer (some ⟨cb, 0, none⟩)) := b1.cell (i := 0) rfl
  have el := b1.lt
  have hnt2 := hnt mb
  have hM1 := fun cap w' => hM cap w1 w' hb
  replace hM1 := Lib.hid hM1
  replace hn := Lib.hid hn
  replace hnt2 := Lib.hid hnt2
  replace hb := Lib.hid hb
  replace hw1 := Lib.hid hw1
  replace b1 := Lib.hid b1
  have hmf : ∀ (fn : Fn) (first cap : Array Value) (w : World), (Instr.makeFunc fn first cap).run Try.prog w = .ok (.func fn first cap) w := fun _ _ _ _ => rfl
  unfold ptrV
  clear hN h hnt hC hM
  go_enter Try.func31, Try.ntmps31
  go_upto_region 4 with fail
  rw [hw1.out]
  clear c1
  go_wp2_with fail
  refine hn.out.mono ?_
  rintro e w2 ⟨rfl, hR⟩
  obtain ⟨hC2, hK2⟩ := hM1.out _ _ hR
  have b2 : Blk w2 w.heap.size [ptrV cb] 27 := hK2.blk b1.out (.inr (.inr (.inr (.inr rfl))))
  clear d0 e0 dl el
  have e0 : w2.cell? ⟨w.heap.size, 0, none⟩ = some (.pointer (some ⟨cb, 0, none⟩)) := b2.cell (i := 0) rfl
  have el := b2.lt
  have d1 : w2.cell? ⟨cb, 1, none⟩ = some (.string s) := hC2.blk.cell (i := 1) rfl
  have f1 := hC2.blk.frozen 1
  have dl := hC2.blk.lt
  have hC3 : CellAt (w2.setCell ⟨cb, 1, none⟩ (.string x)) B cb lo x := ⟨hC2.hB, hC2.blk.set 1 (.string x)⟩
  have hS : Stp (fun b => b = cb) w2 (w2.setCell ⟨cb, 1, none⟩ (.string x)) := Stp.set (S := fun b => b = cb) rfl 1 _
  replace hR := Lib.hid hR
  replace hC3 := Lib.hid hC3
  replace hS := Lib.hid hS
  clear hC2 hK2 b2
  go_wp2
  go_ret
  exact ⟨rfl, hC3.out, _, w1, w2, hnt2.out, hb.out, hR.out, hS.out⟩
end
end Go.Proofs.Ytcobfimafpfbpaa
