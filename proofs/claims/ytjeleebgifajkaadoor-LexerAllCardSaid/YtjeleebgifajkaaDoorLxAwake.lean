/-
  The chapter's examples come out as they should: awake answers true, in every world. Conditions: none.
-/
import Derived.Test.YtjeleebgifajkaaDoorLxAll2
import Derived.Test.YtjeleebgifajkaaDoorLxFace
set_option linter.unusedSimpArgs false
set_option linter.unusedVariables false
namespace Go.Proofs.YtjeleebgifajkaaDoor
open Go Go.RowKit

abbrev tA : ByteArray := ⟨#[50, 62, 102, 32, 50, 32, 62, 102, 32, 120, 50, 62, 102]⟩
abbrev tB : ByteArray := ⟨#[36, 40, 97, 32, 40, 98, 41, 32, 34, 41, 34, 41, 120, 38]⟩
abbrev tC : ByteArray := ⟨#[97, 32, 34, 98]⟩
abbrev tD : ByteArray := ⟨#[120, 10, 9, 69, 10, 121]⟩
theorem aw1 : allP tA = ([(3, 0, 1), (2, 1, 2), (4, 2, 3), (4, 4, 5), (2, 6, 7), (4, 7, 8), (4, 9, 11), (2, 11, 12), (4, 12, 13)], 0, 0) := by decide +kernel
theorem aw2 : allP tB = ([(4, 0, 13), (2, 13, 14)], 0, 0) := by decide +kernel
theorem aw3 : allP tC = ([(4, 0, 1)], 2, 30) := by decide +kernel
theorem aw4 : docV tD 0 ⟨#[69]⟩ true = ([120, 10], 5, 0) := by decide +kernel
theorem aw5 : wordsL.contains (bl ⟨#[102, 105]⟩) = true := by decide +kernel
theorem aw6 : wordsL.contains (bl ⟨#[102]⟩) = false := by decide +kernel
theorem aw7 : tB.extract 13 14 = ⟨#[38]⟩ := by decide +kernel

set_option maxHeartbeats 4000000 in
set_option maxRecDepth 100000 in
theorem awake_any (w : World) : Calls Tryd.prog 9 #[] w fun e w' => e = .returned (.bool true) ∧ Below w.heap.size w w' := by
  go_enter Tryd.func9, Tryd.ntmps9
  go_wp2_with fail
  refine (All_any tA _).mono ?_
  rintro e w1 ⟨v1, rfl, hb1, r1⟩
  rw [aw1] at r1 ⊢
  obtain ⟨g1, c1, rfl⟩ := ownsRow_succ (k := 8) r1
  dsimp only
  go_wp2_with fail
  refine (All_any tB _).mono ?_
  rintro e w2 ⟨v2, rfl, hb2, r2⟩
  rw [aw2] at r2 ⊢
  obtain ⟨g2, c2, rfl⟩ := ownsRow_succ (k := 1) r2
  dsimp only
  have r1 := own_below r1 hb2
  have hbA := hb1.trans (hb2.mono hb1.size)
  clear hb1 hb2
  go_wp2_with fail
  refine (All_any tC _).mono ?_
  rintro e w3 ⟨v3, rfl, hb3, r3⟩
  rw [aw3] at r3 ⊢
  obtain ⟨g3, c3, rfl⟩ := ownsRow_succ (k := 0) r3
  dsimp only
  have r1 := own_below r1 hb3
  have r2 := own_below r2 hb3
  have hbA := hbA.trans (hb3.mono hbA.size)
  clear hb3 r3
  go_wp2_with fail
  refine (Doc_any tD ⟨#[69]⟩ 0 true _).mono ?_
  rintro e w4 ⟨rfl, hb4⟩
  rw [aw4]
  dsimp only
  have r1 := own_below r1 hb4
  have r2 := own_below r2 hb4
  have hbA := hbA.trans (hb4.mono hbA.size)
  clear hb4
  have k1 := r1.cells (g := g1) rfl 0 (.int .i64 3) rfl
  have k2 := r1.cells (g := g1) rfl 12 (.int .i64 4) rfl
  have k3 := r2.cells (g := g2) rfl 5 (.string ⟨#[38]⟩) (by rw [← aw7]; rfl)
  rw [add_plain0, Nat.zero_add] at k1 k2 k3
  have p5 := fun W => Reserved_any ⟨#[102, 105]⟩ W
  have p6 := fun W => Reserved_any ⟨#[102]⟩ W
  rw [aw5] at p5
  rw [aw6] at p6
  replace p5 := Lib.hid p5
  replace p6 := Lib.hid p6
  replace hbA := Lib.hid hbA
  clear r1 r2
  go_wp2_with fail
  refine (p5.out _).mono ?_
  rintro e w' ⟨rfl, hwq⟩
  obtain rfl := hwq.symm
  go_wp2_with fail
  refine (p6.out _).mono ?_
  rintro e w' ⟨rfl, hwq⟩
  obtain rfl := hwq.symm
  go_wp2
  go_ret
  exact ⟨rfl, hbA.out⟩
end Go.Proofs.YtjeleebgifajkaaDoor
