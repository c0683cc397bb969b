/-
  The walk of LexerNext: it answers true and leaves what was there. Conditions: none.
-/
import Derived.Test.YtjeleebgifajkaaDoorLxRefNext3
set_option linter.unusedSimpArgs false
set_option linter.unusedVariables false
namespace Go.Proofs.YtjeleebgifajkaaDoor
open Go Go.RowKit

theorem nextV_cells (s : ByteArray) (n : Int) : ∃ (a : Int) (b : ByteArray) (c d e : Int), nextV s n = .tuple #[.agg #[.int .i64 a, .string b, .int .i64 c, .int .i64 d], .int .i64 e] := by
  unfold nextV
  split
  · exact ⟨_, _, _, _, _, rfl⟩
  · obtain ⟨a, b, c, d, h⟩ := tok_cells s (nextP (bl s) n.toNat)
    rw [h]
    exact ⟨_, _, _, _, _, rfl⟩
set_option maxHeartbeats 4000000 in
set_option maxRecDepth 100000 in
theorem lawNext_any (s : ByteArray) (n : Int) (w : World) :
    Calls Tryd.prog 3 #[.string s, .int .i64 n] w fun e w' => e = .returned (.bool true) ∧ Below w.heap.size w w' := by
  have haw := fun W => awake_any W
  replace haw := Lib.hid haw
  by_cases g1 : (1000 : Int) < (s.size : Int) ∧ (s.size : Int) ≤ 4096
  · obtain ⟨g1, g2⟩ := g1
    go_enter Tryd.func3, Tryd.ntmps3
    go_wp2_with fail
    refine (haw.out _).mono ?_
    rintro e w' ⟨rfl, hb⟩
    replace hb := Lib.hid hb
    go_wp2
    go_ret
    exact ⟨rfl, hb.out⟩
  · have g4 : ¬ (1000 : Int) < (s.size : Int) ∨ (1000 : Int) < (s.size : Int) ∧ ¬ (s.size : Int) ≤ 4096 := by omega
    have hn1 := fun W => Next_any s n W
    have hn2 := fun W => rNext_any s n W
    have hh1 := fun W => Hole_any s n W
    have hh2 := fun W => rHole_any s n W
    obtain ⟨a, b, c, d, er, hv⟩ := nextV_cells s n
    rw [hv] at hn1 hn2
    have hsm := fun W => same_any a c d b W
    generalize (holeV s n).1 = h1 at hh1 hh2
    generalize (holeV s n).2 = h2 at hh1 hh2
    replace hn1 := Lib.hid hn1
    replace hn2 := Lib.hid hn2
    replace hh1 := Lib.hid hh1
    replace hh2 := Lib.hid hh2
    replace hsm := Lib.hid hsm
    clear g1 hv
    rcases g4 with g4 | ⟨g4, g5⟩
    all_goals (
      go_enter Tryd.func3, Tryd.ntmps3
      go_wp2_with fail
      refine (hn1.out _).mono ?_
      rintro e w1 ⟨rfl, hb1⟩
      have bz1 := Blk.new w1 [.int .i64 a, .string b, .int .i64 c, .int .i64 d] 24
      have hbA : Below w.heap.size w (w1.alloc (.cells #[.int .i64 a, .string b, .int .i64 c, .int .i64 d] 24)) := hb1.alloc hb1.size _
      obtain ⟨z1, hz1⟩ : ∃ z1, w1.heap.size = z1 := ⟨_, rfl⟩
      rw [hz1] at bz1
      replace hbA := Lib.hid hbA
      replace bz1 := Lib.hid bz1
      clear hb1
      go_upto_region 4 with fail
      try rw [hz1]
      generalize (w1.alloc (.cells #[.int .i64 a, .string b, .int .i64 c, .int .i64 d] 24)) = wA at hbA bz1 ⊢
      clear hz1
      go_wp2_with fail
      refine (hn2.out _).mono ?_
      rintro e w2 ⟨rfl, hb2⟩
      have bz2 := Blk.new w2 [.int .i64 a, .string b, .int .i64 c, .int .i64 d] 28
      have bz1b : Blk w2 z1 _ _ := (hb2.block z1 bz1.out.lt).trans bz1.out
      have hzz : ¬ z1 = w2.heap.size := by have := bz1b.lt; omega
      have bz1c := bz1b.alloc (.cells #[.int .i64 a, .string b, .int .i64 c, .int .i64 d] 28)
      have hbB : Below w.heap.size w (w2.alloc (.cells #[.int .i64 a, .string b, .int .i64 c, .int .i64 d] 28)) := (hbA.out.trans (hb2.mono hbA.out.size)).alloc (Nat.le_trans hbA.out.size hb2.size) _
      obtain ⟨z2, hz2⟩ : ∃ z2, w2.heap.size = z2 := ⟨_, rfl⟩
      rw [hz2] at bz2 hzz
      replace bz1c := Lib.hid bz1c
      replace bz2 := Lib.hid bz2
      replace hbB := Lib.hid hbB
      clear hb2 bz1b hbA bz1
      go_upto_region 5 with fail
      try rw [hz2]
      generalize (w2.alloc (.cells #[.int .i64 a, .string b, .int .i64 c, .int .i64 d] 28)) = wB at hbB bz1c bz2 ⊢
      clear hz2
      go_wp2_with fail
      refine (hh1.out _).mono ?_
      rintro e w3 ⟨rfl, hwq⟩
      obtain rfl := hwq.symm
      clear hwq hh1
      go_wp2_with fail
      refine (hh2.out _).mono ?_
      rintro e w4 ⟨rfl, hb4⟩
      have bz1e := (hb4.block z1 bz1c.out.lt).trans bz1c.out
      have bz2e := (hb4.block z2 bz2.out.lt).trans bz2.out
      have hbD : Hid (Below w.heap.size w w4) := Lib.hid (hbB.out.trans (hb4.mono hbB.out.size))
      have p0 := Blk.cell bz1e (i := 0) rfl
      have p1 := Blk.cell bz1e (i := 1) rfl
      have p2 := Blk.cell bz1e (i := 2) rfl
      have p3 := Blk.cell bz1e (i := 3) rfl
      have q0 := Blk.cell bz2e (i := 0) rfl
      have q1 := Blk.cell bz2e (i := 1) rfl
      have q2 := Blk.cell bz2e (i := 2) rfl
      have q3 := Blk.cell bz2e (i := 3) rfl
      have hzy := Ne.symm hzz
      clear bz1c bz2 hbB hb4 hh2 bz1e bz2e
      go_wp2_with fail
      refine (hsm.out _).mono ?_
      rintro e w8 ⟨rfl, hb8⟩
      have hbF : Hid (Below w.heap.size w w8) := Lib.hid (hbD.out.trans (hb8.mono hbD.out.size))
      clear hb8 hbD
      go_wp2_with fail
      refine (haw.out _).mono ?_
      rintro e w9 ⟨rfl, hb9⟩
      have hbE : Hid (Below w.heap.size w w9) := Lib.hid (hbF.out.trans (hb9.mono hbF.out.size))
      clear hb9 hbF
      go_wp2
      go_ret
      exact ⟨rfl, hbE.out⟩)
end Go.Proofs.YtjeleebgifajkaaDoor
