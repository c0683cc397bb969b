/-
  Next, Hole and Reserved, told plainly. Conditions: none.
-/
import Derived.Test.YtjeleebgifajkaaDoorLxDoc
set_option linter.unusedSimpArgs false
set_option linter.unusedVariables false
namespace Go.Proofs.YtjeleebgifajkaaDoor
open Go Go.Shelf Go.RowKit Go.ChangeMaps

def nextV (s : ByteArray) (at_ : Int) : Value := if chk s at_ ≠ 0 then .tuple #[.agg #[.int .i64 0, .string ⟨#[]⟩, .int .i64 0, .int .i64 0], .int .i64 (chk s at_)]
  else .tuple #[tokE s (nextP (bl s) at_.toNat), .int .i64 (errE (nextP (bl s) at_.toNat))]
/-- The place behind a hole, and what is wrong. -/
def holeV (s : ByteArray) (at_ : Int) : Int × Int := if chk s at_ ≠ 0 then (0, chk s at_) else if holeB ((bl s).drop at_.toNat) = false then (0, 1)
  else match holeP ((bl s).drop at_.toNat) with
    | none => (0, 30)
    | some n => (((at_.toNat + n : Nat) : Int), 0)
def wordsL : List (List UInt8) := [[105, 102], [116, 104, 101, 110], [101, 108, 115, 101], [101, 108, 105, 102], [102, 105], [100, 111], [100, 111, 110, 101], [119, 104, 105, 108, 101], [117, 110, 116, 105, 108], [102, 111, 114], [99, 97, 115, 101], [101, 115, 97, 99], [105, 110], [123], [125], [33]]
section
set_option maxRecDepth 100000
set_option maxHeartbeats 4000000
theorem tok_cells (s : ByteArray) (t : Nat × Nat × Nat) : ∃ (a : Int) (b : ByteArray) (c d : Int), tokE s t = .agg #[.int .i64 a, .string b, .int .i64 c, .int .i64 d] := by
  unfold tokE
  split
  · exact ⟨_, _, _, _, rfl⟩
  · exact ⟨_, _, _, _, rfl⟩
theorem Next_any (s : ByteArray) (at_ : Int) (w : World) :
    Calls Tryd.prog 10 #[.string s, .int .i64 at_] w fun e w' => e = .returned (nextV s at_) ∧ Below w.heap.size w w' := by
  obtain ⟨R, hR⟩ : ∃ R, nextV s at_ = R := ⟨_, rfl⟩
  rw [hR]
  have hh := fun W => check_any s at_ W
  unfold nextV at hR
  obtain ⟨z, hz⟩ : ∃ z, w.heap.size = z := ⟨_, rfl⟩
  have hb0 : Below z w (w.alloc (.cells #[.int .i64 0, .string ⟨#[]⟩, .int .i64 0, .int .i64 0] 24)) := by rw [← hz]; exact (Below.refl _ w).alloc (Nat.le_refl _) _
  have b0 : Blk (w.alloc (.cells #[.int .i64 0, .string ⟨#[]⟩, .int .i64 0, .int .i64 0] 24)) z [.int .i64 0, .string ⟨#[]⟩, .int .i64 0, .int .i64 0] 24 := by rw [← hz]; exact Blk.new w _ _
  replace hb0 := Lib.hid hb0
  replace b0 := Lib.hid b0
  by_cases hc : chk s at_ = 0
  · obtain ⟨hs, k, rfl, hk⟩ := chk_0 hc
    rw [if_neg (fun h => h hc)] at hR
    have hn := fun W => next_any s k hk (by omega) W
    rw [show ((k : Int)).toNat = k from rfl] at hR
    obtain ⟨xa, xb, xc, xd, hx⟩ := tok_cells s (nextP (bl s) k)
    rw [hx] at hR hn
    generalize errE (nextP (bl s) k) = ee at hR hn
    rw [hc] at hh
    replace hh := Lib.hid hh
    replace hn := Lib.hid hn
    replace hR := Lib.hid hR
    clear hc hx
    go_enter Tryd.func10, Tryd.ntmps10
    go_upto_region 1 with fail
    try rw [hz]
    generalize (w.alloc (.cells #[.int .i64 0, .string ⟨#[]⟩, .int .i64 0, .int .i64 0] 24)) = w1 at hb0 b0 ⊢
    replace hz := Lib.hid hz
    go_wp2_with fail
    refine (hh.out _).mono ?_
    rintro e w' ⟨rfl, hwq⟩
    obtain rfl := hwq.symm
    clear hh
    go_wp2_with fail
    refine (hn.out _).mono ?_
    rintro e w2 ⟨rfl, hb2⟩
    clear hn
    have b2 : Blk w2 z _ _ := (hb2.block z b0.out.lt).trans b0.out
    have hbz : Below z w w2 := hb0.out.trans (hb2.mono (by have := b0.out.lt; omega))
    have f0 := b2.frozen 0
    have f1 := b2.frozen 1
    have f2 := b2.frozen 2
    have f3 := b2.frozen 3
    have l2 := b2.lt
    have e0 := b2.cell (i := 0) rfl
    have e1 := b2.cell (i := 1) rfl
    have e2 := b2.cell (i := 2) rfl
    have e3 := b2.cell (i := 3) rfl
    have bE : Blk ((((w2.setCell ⟨z, 0, none⟩ (.int .i64 xa)).setCell ⟨z, 1, none⟩ (.string xb)).setCell ⟨z, 2, none⟩ (.int .i64 xc)).setCell ⟨z, 3, none⟩ (.int .i64 xd)) z [(.int .i64 xa), (.string xb), (.int .i64 xc), (.int .i64 xd)] 24 := (((b2.set 0 (.int .i64 xa)).set 1 (.string xb)).set 2 (.int .i64 xc)).set 3 (.int .i64 xd)
    have hbE : Below z w ((((w2.setCell ⟨z, 0, none⟩ (.int .i64 xa)).setCell ⟨z, 1, none⟩ (.string xb)).setCell ⟨z, 2, none⟩ (.int .i64 xc)).setCell ⟨z, 3, none⟩ (.int .i64 xd)) := (((hbz.setCell (Nat.le_refl z) _).setCell (Nat.le_refl z) _).setCell (Nat.le_refl z) _).setCell (Nat.le_refl z) _
    replace bE := Lib.hid bE
    replace hbE := Lib.hid hbE
    clear hb2 b2 hbz 
    go_wp2
    generalize ((((w2.setCell ⟨z, 0, none⟩ (.int .i64 xa)).setCell ⟨z, 1, none⟩ (.string xb)).setCell ⟨z, 2, none⟩ (.int .i64 xc)).setCell ⟨z, 3, none⟩ (.int .i64 xd)) = wE at bE hbE ⊢
    have g0 := bE.out.cell (i := 0) rfl
    have g1 := bE.out.cell (i := 1) rfl
    have g2 := bE.out.cell (i := 2) rfl
    have g3 := bE.out.cell (i := 3) rfl
    exact bodyPost_ret (v := .tuple #[.agg #[(.int .i64 xa), (.string xb), (.int .i64 xc), (.int .i64 xd)], .int .i64 ee]) (by simp [results, Tryd.results10, g0, g1, g2, g3, go_sem]) rfl ⟨by rw [← hR.out], by rw [hz.out]; exact hbE.out⟩
  · rw [if_pos hc] at hR
    generalize chk s at_ = c at hc hh hR
    replace hh := Lib.hid hh
    replace hR := Lib.hid hR
    go_enter Tryd.func10, Tryd.ntmps10
    go_upto_region 1 with fail
    try rw [hz]
    generalize (w.alloc (.cells #[.int .i64 0, .string ⟨#[]⟩, .int .i64 0, .int .i64 0] 24)) = w1 at hb0 b0 ⊢
    replace hz := Lib.hid hz
    go_wp2_with fail
    refine (hh.out _).mono ?_
    rintro e w' ⟨rfl, hwq⟩
    obtain rfl := hwq.symm
    clear hh
    have hb2 := Below.refl w1.heap.size w1
    have b2 : Blk w1 z _ _ := (hb2.block z b0.out.lt).trans b0.out
    have hbz : Below z w w1 := hb0.out.trans (hb2.mono (by have := b0.out.lt; omega))
    have f0 := b2.frozen 0
    have f1 := b2.frozen 1
    have f2 := b2.frozen 2
    have f3 := b2.frozen 3
    have l2 := b2.lt
    have e0 := b2.cell (i := 0) rfl
    have e1 := b2.cell (i := 1) rfl
    have e2 := b2.cell (i := 2) rfl
    have e3 := b2.cell (i := 3) rfl
    have bE : Blk ((((w1.setCell ⟨z, 0, none⟩ (.int .i64 0)).setCell ⟨z, 1, none⟩ (.string ⟨#[]⟩)).setCell ⟨z, 2, none⟩ (.int .i64 0)).setCell ⟨z, 3, none⟩ (.int .i64 0)) z [(.int .i64 0), (.string ⟨#[]⟩), (.int .i64 0), (.int .i64 0)] 24 := (((b2.set 0 (.int .i64 0)).set 1 (.string ⟨#[]⟩)).set 2 (.int .i64 0)).set 3 (.int .i64 0)
    have hbE : Below z w ((((w1.setCell ⟨z, 0, none⟩ (.int .i64 0)).setCell ⟨z, 1, none⟩ (.string ⟨#[]⟩)).setCell ⟨z, 2, none⟩ (.int .i64 0)).setCell ⟨z, 3, none⟩ (.int .i64 0)) := (((hbz.setCell (Nat.le_refl z) _).setCell (Nat.le_refl z) _).setCell (Nat.le_refl z) _).setCell (Nat.le_refl z) _
    replace bE := Lib.hid bE
    replace hbE := Lib.hid hbE
    clear hb2 b2 hbz 
    go_wp2
    generalize ((((w1.setCell ⟨z, 0, none⟩ (.int .i64 0)).setCell ⟨z, 1, none⟩ (.string ⟨#[]⟩)).setCell ⟨z, 2, none⟩ (.int .i64 0)).setCell ⟨z, 3, none⟩ (.int .i64 0)) = wE at bE hbE ⊢
    have g0 := bE.out.cell (i := 0) rfl
    have g1 := bE.out.cell (i := 1) rfl
    have g2 := bE.out.cell (i := 2) rfl
    have g3 := bE.out.cell (i := 3) rfl
    exact bodyPost_ret (v := .tuple #[.agg #[(.int .i64 0), (.string ⟨#[]⟩), (.int .i64 0), (.int .i64 0)], .int .i64 c]) (by simp [results, Tryd.results10, g0, g1, g2, g3, go_sem]) rfl ⟨by rw [← hR.out], by rw [hz.out]; exact hbE.out⟩
theorem Hole_any (s : ByteArray) (at_ : Int) (w : World) :
    Calls Tryd.prog 12 #[.string s, .int .i64 at_] w fun e w' => e = .returned (.tuple #[.int .i64 (holeV s at_).1, .int .i64 (holeV s at_).2]) ∧ w' = w := by
  obtain ⟨R, hR⟩ : ∃ R, holeV s at_ = R := ⟨_, rfl⟩
  rw [hR]
  obtain ⟨r1, r2⟩ := R
  dsimp only
  have hh := check_any s at_ w
  unfold holeV at hR
  by_cases hc : chk s at_ = 0
  · obtain ⟨hs, k, rfl, hk⟩ := chk_0 hc
    rw [if_neg (fun h => h hc)] at hR
    rw [show ((k : Int)).toNat = k from rfl] at hR
    have hi := isHole_any s k hk (by omega) w
    rw [hc] at hh
    replace hh := Lib.hid hh
    clear hc
    cases hb : holeB ((bl s).drop k) with
    | false =>
      rw [if_pos hb] at hR
      injection hR with hR1 hR2
      subst hR1 hR2
      rw [hb] at hi
      replace hi := Lib.hid hi
      clear hb
      go_enter Tryd.func12, Tryd.ntmps12
      go_wp2_with fail
      refine hh.out.mono ?_
      rintro e w' ⟨rfl, hwq⟩
      obtain rfl := hwq.symm
      clear hh
      go_wp2_with fail
      refine hi.out.mono ?_
      rintro e w' ⟨rfl, hwq⟩
      obtain rfl := hwq.symm
      go_wp2
      go_ret2
      exact ⟨rfl, rfl⟩
    | true =>
      rw [if_neg (by rw [hb]; decide)] at hR
      have hlt : k < s.size := by
        by_cases h : k < s.size
        · exact h
        · rw [bl_end s k (by omega)] at hb; cases hb
      have hp := hole_any s k hlt (by omega) w hb
      rw [hb] at hi
      replace hi := Lib.hid hi
      clear hb
      cases hq : holeP ((bl s).drop k) with
      | none =>
        rw [hq] at hR hp
        injection hR with hR1 hR2
        subst hR1 hR2
        replace hp := Lib.hid hp
        clear hq
        go_enter Tryd.func12, Tryd.ntmps12
        go_wp2_with fail
        refine hh.out.mono ?_
        rintro e w' ⟨rfl, hwq⟩
        obtain rfl := hwq.symm
        clear hh
        go_wp2_with fail
        refine hi.out.mono ?_
        rintro e w' ⟨rfl, hwq⟩
        obtain rfl := hwq.symm
        go_wp2_with fail
        refine hp.out.mono ?_
        rintro e w' ⟨rfl, hwq⟩
        obtain rfl := hwq.symm
        rw [enc_none]
        go_wp2
        go_ret2
        exact ⟨rfl, rfl⟩
      | some n =>
        rw [hq] at hR hp
        injection hR with hR1 hR2
        subst hR1 hR2
        rw [enc_some] at hp
        have hne : ¬ (((k + n : Nat) : Int) = -1) := by omega
        generalize k + n = j at hp hne ⊢
        replace hp := Lib.hid hp
        clear hq
        go_enter Tryd.func12, Tryd.ntmps12
        go_wp2_with fail
        refine hh.out.mono ?_
        rintro e w' ⟨rfl, hwq⟩
        obtain rfl := hwq.symm
        clear hh
        go_wp2_with fail
        refine hi.out.mono ?_
        rintro e w' ⟨rfl, hwq⟩
        obtain rfl := hwq.symm
        go_wp2_with fail
        refine hp.out.mono ?_
        rintro e w' ⟨rfl, hwq⟩
        obtain rfl := hwq.symm
        go_wp2
        go_ret2
        exact ⟨rfl, rfl⟩
  · rw [if_pos hc] at hR
    injection hR with hR1 hR2
    subst hR1 hR2
    generalize chk s at_ = c at hc hh ⊢
    replace hh := Lib.hid hh
    go_enter Tryd.func12, Tryd.ntmps12
    go_wp2_with fail
    refine hh.out.mono ?_
    rintro e w' ⟨rfl, hwq⟩
    obtain rfl := hwq.symm
    go_wp2
    go_ret2
    exact ⟨rfl, rfl⟩
theorem Reserved_any (s : ByteArray) (w : World) :
    Calls Tryd.prog 17 #[.string s] w fun e w' => e = .returned (.bool (wordsL.contains (bl s))) ∧ w' = w := by
  by_cases h0 : s = ⟨#[105, 102]⟩
  · have g : (s.toList == [105, 102]) = true := by rw [h0, ByteArray.toList_eq]; rfl
    have e : wordsL.contains (bl s) = true := by rw [h0]; rfl
    rw [e]
    clear e h0
    go_enter Tryd.func17, Tryd.ntmps17
    go_wp2
    go_ret
    exact ⟨rfl, rfl⟩
  by_cases h1 : s = ⟨#[116, 104, 101, 110]⟩
  · have g : (s.toList == [116, 104, 101, 110]) = true := by rw [h1, ByteArray.toList_eq]; rfl
    have g0 : (s.toList == [105, 102]) = false := bytesNe h0
    have e : wordsL.contains (bl s) = true := by rw [h1]; rfl
    rw [e]
    clear e h0 h1
    go_enter Tryd.func17, Tryd.ntmps17
    go_wp2
    go_ret
    exact ⟨rfl, rfl⟩
  by_cases h2 : s = ⟨#[101, 108, 115, 101]⟩
  · have g : (s.toList == [101, 108, 115, 101]) = true := by rw [h2, ByteArray.toList_eq]; rfl
    have g0 : (s.toList == [105, 102]) = false := bytesNe h0
    have g1 : (s.toList == [116, 104, 101, 110]) = false := bytesNe h1
    have e : wordsL.contains (bl s) = true := by rw [h2]; rfl
    rw [e]
    clear e h0 h1 h2
    go_enter Tryd.func17, Tryd.ntmps17
    go_wp2
    go_ret
    exact ⟨rfl, rfl⟩
  by_cases h3 : s = ⟨#[101, 108, 105, 102]⟩
  · have g : (s.toList == [101, 108, 105, 102]) = true := by rw [h3, ByteArray.toList_eq]; rfl
    have g0 : (s.toList == [105, 102]) = false := bytesNe h0
    have g1 : (s.toList == [116, 104, 101, 110]) = false := bytesNe h1
    have g2 : (s.toList == [101, 108, 115, 101]) = false := bytesNe h2
    have e : wordsL.contains (bl s) = true := by rw [h3]; rfl
    rw [e]
    clear e h0 h1 h2 h3
    go_enter Tryd.func17, Tryd.ntmps17
    go_wp2
    go_ret
    exact ⟨rfl, rfl⟩
  by_cases h4 : s = ⟨#[102, 105]⟩
  · have g : (s.toList == [102, 105]) = true := by rw [h4, ByteArray.toList_eq]; rfl
    have g0 : (s.toList == [105, 102]) = false := bytesNe h0
    have g1 : (s.toList == [116, 104, 101, 110]) = false := bytesNe h1
    have g2 : (s.toList == [101, 108, 115, 101]) = false := bytesNe h2
    have g3 : (s.toList == [101, 108, 105, 102]) = false := bytesNe h3
    have e : wordsL.contains (bl s) = true := by rw [h4]; rfl
    rw [e]
    clear e h0 h1 h2 h3 h4
    go_enter Tryd.func17, Tryd.ntmps17
    go_wp2
    go_ret
    exact ⟨rfl, rfl⟩
  by_cases h5 : s = ⟨#[100, 111]⟩
  · have g : (s.toList == [100, 111]) = true := by rw [h5, ByteArray.toList_eq]; rfl
    have g0 : (s.toList == [105, 102]) = false := bytesNe h0
    have g1 : (s.toList == [116, 104, 101, 110]) = false := bytesNe h1
    have g2 : (s.toList == [101, 108, 115, 101]) = false := bytesNe h2
    have g3 : (s.toList == [101, 108, 105, 102]) = false := bytesNe h3
    have g4 : (s.toList == [102, 105]) = false := bytesNe h4
    have e : wordsL.contains (bl s) = true := by rw [h5]; rfl
    rw [e]
    clear e h0 h1 h2 h3 h4 h5
    go_enter Tryd.func17, Tryd.ntmps17
    go_wp2
    go_ret
    exact ⟨rfl, rfl⟩
  by_cases h6 : s = ⟨#[100, 111, 110, 101]⟩
  · have g : (s.toList == [100, 111, 110, 101]) = true := by rw [h6, ByteArray.toList_eq]; rfl
    have g0 : (s.toList == [105, 102]) = false := bytesNe h0
    have g1 : (s.toList == [116, 104, 101, 110]) = false := bytesNe h1
    have g2 : (s.toList == [101, 108, 115, 101]) = false := bytesNe h2
    have g3 : (s.toList == [101, 108, 105, 102]) = false := bytesNe h3
    have g4 : (s.toList == [102, 105]) = false := bytesNe h4
    have g5 : (s.toList == [100, 111]) = false := bytesNe h5
    have e : wordsL.contains (bl s) = true := by rw [h6]; rfl
    rw [e]
    clear e h0 h1 h2 h3 h4 h5 h6
    go_enter Tryd.func17, Tryd.ntmps17
    go_wp2
    go_ret
    exact ⟨rfl, rfl⟩
  by_cases h7 : s = ⟨#[119, 104, 105, 108, 101]⟩
  · have g : (s.toList == [119, 104, 105, 108, 101]) = true := by rw [h7, ByteArray.toList_eq]; rfl
    have g0 : (s.toList == [105, 102]) = false := bytesNe h0
    have g1 : (s.toList == [116, 104, 101, 110]) = false := bytesNe h1
    have g2 : (s.toList == [101, 108, 115, 101]) = false := bytesNe h2
    have g3 : (s.toList == [101, 108, 105, 102]) = false := bytesNe h3
    have g4 : (s.toList == [102, 105]) = false := bytesNe h4
    have g5 : (s.toList == [100, 111]) = false := bytesNe h5
    have g6 : (s.toList == [100, 111, 110, 101]) = false := bytesNe h6
    have e : wordsL.contains (bl s) = true := by rw [h7]; rfl
    rw [e]
    clear e h0 h1 h2 h3 h4 h5 h6 h7
    go_enter Tryd.func17, Tryd.ntmps17
    go_wp2
    go_ret
    exact ⟨rfl, rfl⟩
  by_cases h8 : s = ⟨#[117, 110, 116, 105, 108]⟩
  · have g : (s.toList == [117, 110, 116, 105, 108]) = true := by rw [h8, ByteArray.toList_eq]; rfl
    have g0 : (s.toList == [105, 102]) = false := bytesNe h0
    have g1 : (s.toList == [116, 104, 101, 110]) = false := bytesNe h1
    have g2 : (s.toList == [101, 108, 115, 101]) = false := bytesNe h2
    have g3 : (s.toList == [101, 108, 105, 102]) = false := bytesNe h3
    have g4 : (s.toList == [102, 105]) = false := bytesNe h4
    have g5 : (s.toList == [100, 111]) = false := bytesNe h5
    have g6 : (s.toList == [100, 111, 110, 101]) = false := bytesNe h6
    have g7 : (s.toList == [119, 104, 105, 108, 101]) = false := bytesNe h7
    have e : wordsL.contains (bl s) = true := by rw [h8]; rfl
    rw [e]
    clear e h0 h1 h2 h3 h4 h5 h6 h7 h8
    go_enter Tryd.func17, Tryd.ntmps17
    go_wp2
    go_ret
    exact ⟨rfl, rfl⟩
  by_cases h9 : s = ⟨#[102, 111, 114]⟩
  · have g : (s.toList == [102, 111, 114]) = true := by rw [h9, ByteArray.toList_eq]; rfl
    have g0 : (s.toList == [105, 102]) = false := bytesNe h0
    have g1 : (s.toList == [116, 104, 101, 110]) = false := bytesNe h1
    have g2 : (s.toList == [101, 108, 115, 101]) = false := bytesNe h2
    have g3 : (s.toList == [101, 108, 105, 102]) = false := bytesNe h3
    have g4 : (s.toList == [102, 105]) = false := bytesNe h4
    have g5 : (s.toList == [100, 111]) = false := bytesNe h5
    have g6 : (s.toList == [100, 111, 110, 101]) = false := bytesNe h6
    have g7 : (s.toList == [119, 104, 105, 108, 101]) = false := bytesNe h7
    have g8 : (s.toList == [117, 110, 116, 105, 108]) = false := bytesNe h8
    have e : wordsL.contains (bl s) = true := by rw [h9]; rfl
    rw [e]
    clear e h0 h1 h2 h3 h4 h5 h6 h7 h8 h9
    go_enter Tryd.func17, Tryd.ntmps17
    go_wp2
    go_ret
    exact ⟨rfl, rfl⟩
  by_cases h10 : s = ⟨#[99, 97, 115, 101]⟩
  · have g : (s.toList == [99, 97, 115, 101]) = true := by rw [h10, ByteArray.toList_eq]; rfl
    have g0 : (s.toList == [105, 102]) = false := bytesNe h0
    have g1 : (s.toList == [116, 104, 101, 110]) = false := bytesNe h1
    have g2 : (s.toList == [101, 108, 115, 101]) = false := bytesNe h2
    have g3 : (s.toList == [101, 108, 105, 102]) = false := bytesNe h3
    have g4 : (s.toList == [102, 105]) = false := bytesNe h4
    have g5 : (s.toList == [100, 111]) = false := bytesNe h5
    have g6 : (s.toList == [100, 111, 110, 101]) = false := bytesNe h6
    have g7 : (s.toList == [119, 104, 105, 108, 101]) = false := bytesNe h7
    have g8 : (s.toList == [117, 110, 116, 105, 108]) = false := bytesNe h8
    have g9 : (s.toList == [102, 111, 114]) = false := bytesNe h9
    have e : wordsL.contains (bl s) = true := by rw [h10]; rfl
    rw [e]
    clear e h0 h1 h2 h3 h4 h5 h6 h7 h8 h9 h10
    go_enter Tryd.func17, Tryd.ntmps17
    go_wp2
    go_ret
    exact ⟨rfl, rfl⟩
  by_cases h11 : s = ⟨#[101, 115, 97, 99]⟩
  · have g : (s.toList == [101, 115, 97, 99]) = true := by rw [h11, ByteArray.toList_eq]; rfl
    have g0 : (s.toList == [105, 102]) = false := bytesNe h0
    have g1 : (s.toList == [116, 104, 101, 110]) = false := bytesNe h1
    have g2 : (s.toList == [101, 108, 115, 101]) = false := bytesNe h2
    have g3 : (s.toList == [101, 108, 105, 102]) = false := bytesNe h3
    have g4 : (s.toList == [102, 105]) = false := bytesNe h4
    have g5 : (s.toList == [100, 111]) = false := bytesNe h5
    have g6 : (s.toList == [100, 111, 110, 101]) = false := bytesNe h6
    have g7 : (s.toList == [119, 104, 105, 108, 101]) = false := bytesNe h7
    have g8 : (s.toList == [117, 110, 116, 105, 108]) = false := bytesNe h8
    have g9 : (s.toList == [102, 111, 114]) = false := bytesNe h9
    have g10 : (s.toList == [99, 97, 115, 101]) = false := bytesNe h10
    have e : wordsL.contains (bl s) = true := by rw [h11]; rfl
    rw [e]
    clear e h0 h1 h2 h3 h4 h5 h6 h7 h8 h9 h10 h11
    go_enter Tryd.func17, Tryd.ntmps17
    go_wp2
    go_ret
    exact ⟨rfl, rfl⟩
  by_cases h12 : s = ⟨#[105, 110]⟩
  · have g : (s.toList == [105, 110]) = true := by rw [h12, ByteArray.toList_eq]; rfl
    have g0 : (s.toList == [105, 102]) = false := bytesNe h0
    have g1 : (s.toList == [116, 104, 101, 110]) = false := bytesNe h1
    have g2 : (s.toList == [101, 108, 115, 101]) = false := bytesNe h2
    have g3 : (s.toList == [101, 108, 105, 102]) = false := bytesNe h3
    have g4 : (s.toList == [102, 105]) = false := bytesNe h4
    have g5 : (s.toList == [100, 111]) = false := bytesNe h5
    have g6 : (s.toList == [100, 111, 110, 101]) = false := bytesNe h6
    have g7 : (s.toList == [119, 104, 105, 108, 101]) = false := bytesNe h7
    have g8 : (s.toList == [117, 110, 116, 105, 108]) = false := bytesNe h8
    have g9 : (s.toList == [102, 111, 114]) = false := bytesNe h9
    have g10 : (s.toList == [99, 97, 115, 101]) = false := bytesNe h10
    have g11 : (s.toList == [101, 115, 97, 99]) = false := bytesNe h11
    have e : wordsL.contains (bl s) = true := by rw [h12]; rfl
    rw [e]
    clear e h0 h1 h2 h3 h4 h5 h6 h7 h8 h9 h10 h11 h12
    go_enter Tryd.func17, Tryd.ntmps17
    go_wp2
    go_ret
    exact ⟨rfl, rfl⟩
  by_cases h13 : s = ⟨#[123]⟩
  · have g : (s.toList == [123]) = true := by rw [h13, ByteArray.toList_eq]; rfl
    have g0 : (s.toList == [105, 102]) = false := bytesNe h0
    have g1 : (s.toList == [116, 104, 101, 110]) = false := bytesNe h1
    have g2 : (s.toList == [101, 108, 115, 101]) = false := bytesNe h2
    have g3 : (s.toList == [101, 108, 105, 102]) = false := bytesNe h3
    have g4 : (s.toList == [102, 105]) = false := bytesNe h4
    have g5 : (s.toList == [100, 111]) = false := bytesNe h5
    have g6 : (s.toList == [100, 111, 110, 101]) = false := bytesNe h6
    have g7 : (s.toList == [119, 104, 105, 108, 101]) = false := bytesNe h7
    have g8 : (s.toList == [117, 110, 116, 105, 108]) = false := bytesNe h8
    have g9 : (s.toList == [102, 111, 114]) = false := bytesNe h9
    have g10 : (s.toList == [99, 97, 115, 101]) = false := bytesNe h10
    have g11 : (s.toList == [101, 115, 97, 99]) = false := bytesNe h11
    have g12 : (s.toList == [105, 110]) = false := bytesNe h12
    have e : wordsL.contains (bl s) = true := by rw [h13]; rfl
    rw [e]
    clear e h0 h1 h2 h3 h4 h5 h6 h7 h8 h9 h10 h11 h12 h13
    go_enter Tryd.func17, Tryd.ntmps17
    go_wp2
    go_ret
    exact ⟨rfl, rfl⟩
  by_cases h14 : s = ⟨#[125]⟩
  · have g : (s.toList == [125]) = true := by rw [h14, ByteArray.toList_eq]; rfl
    have g0 : (s.toList == [105, 102]) = false := bytesNe h0
    have g1 : (s.toList == [116, 104, 101, 110]) = false := bytesNe h1
    have g2 : (s.toList == [101, 108, 115, 101]) = false := bytesNe h2
    have g3 : (s.toList == [101, 108, 105, 102]) = false := bytesNe h3
    have g4 : (s.toList == [102, 105]) = false := bytesNe h4
    have g5 : (s.toList == [100, 111]) = false := bytesNe h5
    have g6 : (s.toList == [100, 111, 110, 101]) = false := bytesNe h6
    have g7 : (s.toList == [119, 104, 105, 108, 101]) = false := bytesNe h7
    have g8 : (s.toList == [117, 110, 116, 105, 108]) = false := bytesNe h8
    have g9 : (s.toList == [102, 111, 114]) = false := bytesNe h9
    have g10 : (s.toList == [99, 97, 115, 101]) = false := bytesNe h10
    have g11 : (s.toList == [101, 115, 97, 99]) = false := bytesNe h11
    have g12 : (s.toList == [105, 110]) = false := bytesNe h12
    have g13 : (s.toList == [123]) = false := bytesNe h13
    have e : wordsL.contains (bl s) = true := by rw [h14]; rfl
    rw [e]
    clear e h0 h1 h2 h3 h4 h5 h6 h7 h8 h9 h10 h11 h12 h13 h14
    go_enter Tryd.func17, Tryd.ntmps17
    go_wp2
    go_ret
    exact ⟨rfl, rfl⟩
  by_cases h15 : s = ⟨#[33]⟩
  · have g : (s.toList == [33]) = true := by rw [h15, ByteArray.toList_eq]; rfl
    have g0 : (s.toList == [105, 102]) = false := bytesNe h0
    have g1 : (s.toList == [116, 104, 101, 110]) = false := bytesNe h1
    have g2 : (s.toList == [101, 108, 115, 101]) = false := bytesNe h2
    have g3 : (s.toList == [101, 108, 105, 102]) = false := bytesNe h3
    have g4 : (s.toList == [102, 105]) = false := bytesNe h4
    have g5 : (s.toList == [100, 111]) = false := bytesNe h5
    have g6 : (s.toList == [100, 111, 110, 101]) = false := bytesNe h6
    have g7 : (s.toList == [119, 104, 105, 108, 101]) = false := bytesNe h7
    have g8 : (s.toList == [117, 110, 116, 105, 108]) = false := bytesNe h8
    have g9 : (s.toList == [102, 111, 114]) = false := bytesNe h9
    have g10 : (s.toList == [99, 97, 115, 101]) = false := bytesNe h10
    have g11 : (s.toList == [101, 115, 97, 99]) = false := bytesNe h11
    have g12 : (s.toList == [105, 110]) = false := bytesNe h12
    have g13 : (s.toList == [123]) = false := bytesNe h13
    have g14 : (s.toList == [125]) = false := bytesNe h14
    have e : wordsL.contains (bl s) = true := by rw [h15]; rfl
    rw [e]
    clear e h0 h1 h2 h3 h4 h5 h6 h7 h8 h9 h10 h11 h12 h13 h14 h15
    go_enter Tryd.func17, Tryd.ntmps17
    go_wp2
    go_ret
    exact ⟨rfl, rfl⟩
  have g0 : (s.toList == [105, 102]) = false := bytesNe h0
  have g1 : (s.toList == [116, 104, 101, 110]) = false := bytesNe h1
  have g2 : (s.toList == [101, 108, 115, 101]) = false := bytesNe h2
  have g3 : (s.toList == [101, 108, 105, 102]) = false := bytesNe h3
  have g4 : (s.toList == [102, 105]) = false := bytesNe h4
  have g5 : (s.toList == [100, 111]) = false := bytesNe h5
  have g6 : (s.toList == [100, 111, 110, 101]) = false := bytesNe h6
  have g7 : (s.toList == [119, 104, 105, 108, 101]) = false := bytesNe h7
  have g8 : (s.toList == [117, 110, 116, 105, 108]) = false := bytesNe h8
  have g9 : (s.toList == [102, 111, 114]) = false := bytesNe h9
  have g10 : (s.toList == [99, 97, 115, 101]) = false := bytesNe h10
  have g11 : (s.toList == [101, 115, 97, 99]) = false := bytesNe h11
  have g12 : (s.toList == [105, 110]) = false := bytesNe h12
  have g13 : (s.toList == [123]) = false := bytesNe h13
  have g14 : (s.toList == [125]) = false := bytesNe h14
  have g15 : (s.toList == [33]) = false := bytesNe h15
  have e : wordsL.contains (bl s) = false := by
    rw [ByteArray.toList_eq] at g0 g1 g2 g3 g4 g5 g6 g7 g8 g9 g10 g11 g12 g13 g14 g15
    rw [beq_eq_false_iff_ne] at g0 g1 g2 g3 g4 g5 g6 g7 g8 g9 g10 g11 g12 g13 g14 g15
    rw [Bool.eq_false_iff]
    intro hh
    simp only [wordsL, List.contains_iff_mem, List.mem_cons, List.not_mem_nil, or_false] at hh
    simp only [bl] at hh
    simp_all
  rw [e]
  clear e h0 h1 h2 h3 h4 h5 h6 h7 h8 h9 h10 h11 h12 h13 h14 h15
  go_enter Tryd.func17, Tryd.ntmps17
  go_wp2
  go_ret
  exact ⟨rfl, rfl⟩
end
end Go.Proofs.YtjeleebgifajkaaDoor
