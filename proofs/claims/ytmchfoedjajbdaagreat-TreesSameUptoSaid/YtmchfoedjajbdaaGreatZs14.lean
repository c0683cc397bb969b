/-
  whelkref12's Same and one: whether two rows of commands are the same. Conditions: none.
-/
import Derived.Test.YtmchfoedjajbdaaGreatZs13
set_option linter.unusedSimpArgs false
set_option linter.unusedVariables false
namespace Go.Proofs.YtmchfoedjajbdaaGreat
open Go Go.RowKit

section
variable {n0 : Nat} {w : World} {A A' : Option Addr} {c c' : Nat} {f f' g g' : F}
set_option maxRecDepth 100000 in
set_option maxHeartbeats 16000000 in
theorem el_rone (hn : RSameOk n0) (ht : Ty g 0) (ht' : Ty g' 0) (hg : 0 < g.len) (hg' : 0 < g'.len) (hw : wt g ≤ n0) (w : World) (v v' : Value) (hv : ElV w g v) (hv' : ElV w g' v') :
    Calls Tryz.prog 34 #[v, v'] w fun e w' => e = .returned (.bool (sameH g g')) ∧ Below w.heap.size w w' := by
  obtain ⟨k, b, n, g, S, W, R, L, C, r, rfl, _, htS, htW, htR, htL, htC, _⟩ := at_node ht hg
  obtain ⟨k', b', n', g', S', W', R', L', C', r', rfl, _, htS', htW', htR', htL', htC', _⟩ := at_node ht' hg'
  obtain ⟨AS, cS, AW, cW, AR, cR, AL, cL, AC, cC, rfl, hsS, hsW, hsR, hsL, hsC⟩ := hv
  obtain ⟨AS', cS', AW', cW', AR', cR', AL', cL', AC', cC', rfl, hsS', hsW', hsR', hsL', hsC'⟩ := hv'
  simp only [wt] at hw
  have hcW := fun W1 (hb : Below w.heap.size w W1) => r_rows hn htW htW' (by omega) (hsW.below hb) (hsW'.below hb)
  obtain ⟨X, hX⟩ : ∃ X, (decide (k = k') && (b == b') && decide (n = n') && (g == g') && sameF S S' && sameF W W' && sameF R R' && sameF L L' && sameF C C') = X := ⟨_, rfl⟩
  show Calls _ _ _ _ (fun e w' => e = .returned (.bool (decide (k = k') && (b == b') && decide (n = n') && (g == g') && sameF S S' && sameF W W' && sameF R R' && sameF L L' && sameF C C')) ∧ _)
  rw [hX]
  have hmS := hsS.le
  have hmS' := hsS'.le
  have hwS : Hid (wt S ≤ n0) := Lib.hid (by omega)
  obtain ⟨QS, hQS⟩ : ∃ Q, sameF S S' = Q := ⟨_, rfl⟩
  obtain ⟨mS, hNS⟩ : ∃ N, S.len = N := ⟨_, rfl⟩
  obtain ⟨mS', hNS'⟩ : ∃ N, S'.len = N := ⟨_, rfl⟩
  rw [hQS] at hX
  rw [hNS] at hmS ⊢
  rw [hNS'] at hmS' ⊢
  unfold maxLen at hmS hmS'
  replace hQS := Lib.hid hQS
  replace hNS := Lib.hid hNS
  replace hNS' := Lib.hid hNS'
  replace hsS := Lib.hid hsS
  replace hsS' := Lib.hid hsS'
  replace htS := Lib.hid htS
  replace htS' := Lib.hid htS'
  have hmW := hsW.le
  have hmW' := hsW'.le
  have hwW : Hid (wt W ≤ n0) := Lib.hid (by omega)
  obtain ⟨QW, hQW⟩ : ∃ Q, sameF W W' = Q := ⟨_, rfl⟩
  obtain ⟨mW, hNW⟩ : ∃ N, W.len = N := ⟨_, rfl⟩
  obtain ⟨mW', hNW'⟩ : ∃ N, W'.len = N := ⟨_, rfl⟩
  rw [hQW] at hX hcW
  rw [hNW] at hmW hcW ⊢
  rw [hNW'] at hmW' hcW ⊢
  unfold maxLen at hmW hmW'
  replace hQW := Lib.hid hQW
  replace hNW := Lib.hid hNW
  replace hNW' := Lib.hid hNW'
  replace hsW := Lib.hid hsW
  replace hsW' := Lib.hid hsW'
  replace htW := Lib.hid htW
  replace htW' := Lib.hid htW'
  have hmR := hsR.le
  have hmR' := hsR'.le
  have hwR : Hid (wt R ≤ n0) := Lib.hid (by omega)
  obtain ⟨QR, hQR⟩ : ∃ Q, sameF R R' = Q := ⟨_, rfl⟩
  obtain ⟨mR, hNR⟩ : ∃ N, R.len = N := ⟨_, rfl⟩
  obtain ⟨mR', hNR'⟩ : ∃ N, R'.len = N := ⟨_, rfl⟩
  rw [hQR] at hX
  rw [hNR] at hmR ⊢
  rw [hNR'] at hmR' ⊢
  unfold maxLen at hmR hmR'
  replace hQR := Lib.hid hQR
  replace hNR := Lib.hid hNR
  replace hNR' := Lib.hid hNR'
  replace hsR := Lib.hid hsR
  replace hsR' := Lib.hid hsR'
  replace htR := Lib.hid htR
  replace htR' := Lib.hid htR'
  have hmL := hsL.le
  have hmL' := hsL'.le
  have hwL : Hid (wt L ≤ n0) := Lib.hid (by omega)
  obtain ⟨QL, hQL⟩ : ∃ Q, sameF L L' = Q := ⟨_, rfl⟩
  obtain ⟨mL, hNL⟩ : ∃ N, L.len = N := ⟨_, rfl⟩
  obtain ⟨mL', hNL'⟩ : ∃ N, L'.len = N := ⟨_, rfl⟩
  rw [hQL] at hX
  rw [hNL] at hmL ⊢
  rw [hNL'] at hmL' ⊢
  unfold maxLen at hmL hmL'
  replace hQL := Lib.hid hQL
  replace hNL := Lib.hid hNL
  replace hNL' := Lib.hid hNL'
  replace hsL := Lib.hid hsL
  replace hsL' := Lib.hid hsL'
  replace htL := Lib.hid htL
  replace htL' := Lib.hid htL'
  have hmC := hsC.le
  have hmC' := hsC'.le
  have hwC : Hid (wt C ≤ n0) := Lib.hid (by omega)
  obtain ⟨QC, hQC⟩ : ∃ Q, sameF C C' = Q := ⟨_, rfl⟩
  obtain ⟨mC, hNC⟩ : ∃ N, C.len = N := ⟨_, rfl⟩
  obtain ⟨mC', hNC'⟩ : ∃ N, C'.len = N := ⟨_, rfl⟩
  rw [hQC] at hX
  rw [hNC] at hmC ⊢
  rw [hNC'] at hmC' ⊢
  unfold maxLen at hmC hmC'
  replace hQC := Lib.hid hQC
  replace hNC := Lib.hid hNC
  replace hNC' := Lib.hid hNC'
  replace hsC := Lib.hid hsC
  replace hsC' := Lib.hid hsC'
  replace htC := Lib.hid htC
  replace htC' := Lib.hid htC'
  replace hcW := Lib.hid hcW
  clear hg hg' hw ht ht'
  have hbA : Below w.heap.size w (w.alloc (.cells #[.int .i64 k, .bool b, .string n, .bool g, .slice AS mS cS, .slice AW mW cW, .slice AR mR cR, .slice AL mL cL, .slice AC mC cC] 43)) := (Below.refl _ w).alloc (Nat.le_refl _) _
  have bA : Blk (w.alloc (.cells #[.int .i64 k, .bool b, .string n, .bool g, .slice AS mS cS, .slice AW mW cW, .slice AR mR cR, .slice AL mL cL, .slice AC mC cC] 43)) w.heap.size [.int .i64 k, .bool b, .string n, .bool g, .slice AS mS cS, .slice AW mW cW, .slice AR mR cR, .slice AL mL cL, .slice AC mC cC] 43 := Blk.new w _ _
  obtain ⟨w1, hw1⟩ : ∃ w1, w.alloc (.cells #[.int .i64 k, .bool b, .string n, .bool g, .slice AS mS cS, .slice AW mW cW, .slice AR mR cR, .slice AL mL cL, .slice AC mC cC] 43) = w1 := ⟨_, rfl⟩
  obtain ⟨y, hy⟩ : ∃ y, w.heap.size = y := ⟨_, rfl⟩
  rw [hw1] at hbA bA
  have hbC : Below w1.heap.size w1 (w1.alloc (.cells #[.int .i64 k', .bool b', .string n', .bool g', .slice AS' mS' cS', .slice AW' mW' cW', .slice AR' mR' cR', .slice AL' mL' cL', .slice AC' mC' cC'] 43)) := (Below.refl _ w1).alloc (Nat.le_refl _) _
  have bC : Blk (w1.alloc (.cells #[.int .i64 k', .bool b', .string n', .bool g', .slice AS' mS' cS', .slice AW' mW' cW', .slice AR' mR' cR', .slice AL' mL' cL', .slice AC' mC' cC'] 43)) w1.heap.size [.int .i64 k', .bool b', .string n', .bool g', .slice AS' mS' cS', .slice AW' mW' cW', .slice AR' mR' cR', .slice AL' mL' cL', .slice AC' mC' cC'] 43 := Blk.new w1 _ _
  have bA2 := (hbC.block _ bA.lt).trans bA
  have hB := hbA.trans (hbC.mono hbA.size)
  obtain ⟨w2, hw2⟩ : ∃ w2, w1.alloc (.cells #[.int .i64 k', .bool b', .string n', .bool g', .slice AS' mS' cS', .slice AW' mW' cW', .slice AR' mR' cR', .slice AL' mL' cL', .slice AC' mC' cC'] 43) = w2 := ⟨_, rfl⟩
  obtain ⟨z, hz⟩ : ∃ z, w1.heap.size = z := ⟨_, rfl⟩
  rw [hw2] at hB bC bA2
  rw [hz] at bC
  rw [hy] at bA2
  have hz2 : y + 1 = z := by rw [← hz, ← hw1, ← hy]; simp
  replace hz2 := Lib.hid hz2
  replace hB := Lib.hid hB
  replace bC := Lib.hid bC
  replace bA2 := Lib.hid (show Blk w2 y _ _ from bA2)
  clear hbA bA hbC
  replace hw1 := Lib.hid hw1
  replace hw2 := Lib.hid hw2
  replace hy := Lib.hid hy
  replace hz := Lib.hid hz
  replace hX := Lib.hid hX
  go_enter Tryz.func34, Tryz.ntmps34
  go_upto_region 1 with fail
  rw [hw1.out, hw2.out, hy.out]
  first | rw [hz.out] | rw [hz2.out]
  clear hw1 hw2 hy hz hz2
  by_cases hk : k = k'
  rotate_left
  · skip
    obtain rfl : X = false := by rw [← hX.out]; simp [hk]
    clear hX
    have qk : (k == k') = false := beq_eq_false_iff_ne.2 hk
    have rk : (k != k') = true := bne_iff_ne.2 hk
    clear hk
    have y0 := bA2.out.cell (i := 0) rfl
    have z0 := bC.out.cell (i := 0) rfl
    have y1 := bA2.out.cell (i := 1) rfl
    have z1 := bC.out.cell (i := 1) rfl
    have y2 := bA2.out.cell (i := 2) rfl
    have z2 := bC.out.cell (i := 2) rfl
    have y3 := bA2.out.cell (i := 3) rfl
    have z3 := bC.out.cell (i := 3) rfl
    have y4 := bA2.out.cell (i := 4) rfl
    have z4 := bC.out.cell (i := 4) rfl
    have y5 := bA2.out.cell (i := 5) rfl
    have z5 := bC.out.cell (i := 5) rfl
    have y6 := bA2.out.cell (i := 6) rfl
    have z6 := bC.out.cell (i := 6) rfl
    have y7 := bA2.out.cell (i := 7) rfl
    have z7 := bC.out.cell (i := 7) rfl
    have y8 := bA2.out.cell (i := 8) rfl
    have z8 := bC.out.cell (i := 8) rfl
    have yl := bA2.out.lt
    have zl := bC.out.lt
    go_wp2
    go_ret
    exact ⟨rfl, hB.out⟩
  subst hk
  have qk : (k == k) = true := beq_self_eq_true _
  have rk : (k != k) = false := bne_self_eq_false _
  by_cases hb : b = b'
  rotate_left
  · skip
    obtain rfl : X = false := by rw [← hX.out]; simp [hb]
    clear hX
    have qb : (b == b') = false := by simpa using hb
    have rb : (b != b') = true := by simpa using hb
    clear hb
    have y0 := bA2.out.cell (i := 0) rfl
    have z0 := bC.out.cell (i := 0) rfl
    have y1 := bA2.out.cell (i := 1) rfl
    have z1 := bC.out.cell (i := 1) rfl
    have y2 := bA2.out.cell (i := 2) rfl
    have z2 := bC.out.cell (i := 2) rfl
    have y3 := bA2.out.cell (i := 3) rfl
    have z3 := bC.out.cell (i := 3) rfl
    have y4 := bA2.out.cell (i := 4) rfl
    have z4 := bC.out.cell (i := 4) rfl
    have y5 := bA2.out.cell (i := 5) rfl
    have z5 := bC.out.cell (i := 5) rfl
    have y6 := bA2.out.cell (i := 6) rfl
    have z6 := bC.out.cell (i := 6) rfl
    have y7 := bA2.out.cell (i := 7) rfl
    have z7 := bC.out.cell (i := 7) rfl
    have y8 := bA2.out.cell (i := 8) rfl
    have z8 := bC.out.cell (i := 8) rfl
    have yl := bA2.out.lt
    have zl := bC.out.lt
    go_wp2
    go_ret
    exact ⟨rfl, hB.out⟩
  subst hb
  have qb : (b == b) = true := beq_self_eq_true _
  have rb : (b != b) = false := bne_self_eq_false _
  by_cases hn : n = n'
  rotate_left
  · skip
    obtain rfl : X = false := by rw [← hX.out]; simp [hn]
    clear hX
    have qn := str_neT hn
    have rn := str_neT' hn
    clear hn
    have y0 := bA2.out.cell (i := 0) rfl
    have z0 := bC.out.cell (i := 0) rfl
    have y1 := bA2.out.cell (i := 1) rfl
    have z1 := bC.out.cell (i := 1) rfl
    have y2 := bA2.out.cell (i := 2) rfl
    have z2 := bC.out.cell (i := 2) rfl
    have y3 := bA2.out.cell (i := 3) rfl
    have z3 := bC.out.cell (i := 3) rfl
    have y4 := bA2.out.cell (i := 4) rfl
    have z4 := bC.out.cell (i := 4) rfl
    have y5 := bA2.out.cell (i := 5) rfl
    have z5 := bC.out.cell (i := 5) rfl
    have y6 := bA2.out.cell (i := 6) rfl
    have z6 := bC.out.cell (i := 6) rfl
    have y7 := bA2.out.cell (i := 7) rfl
    have z7 := bC.out.cell (i := 7) rfl
    have y8 := bA2.out.cell (i := 8) rfl
    have z8 := bC.out.cell (i := 8) rfl
    have yl := bA2.out.lt
    have zl := bC.out.lt
    go_wp2
    go_ret
    exact ⟨rfl, hB.out⟩
  have qn := str_eqT hn
  subst hn
  by_cases hg : g = g'
  rotate_left
  · skip
    obtain rfl : X = false := by rw [← hX.out]; simp [hg]
    clear hX
    have qg : (g == g') = false := by simpa using hg
    have rg : (g != g') = true := by simpa using hg
    clear hg
    have y0 := bA2.out.cell (i := 0) rfl
    have z0 := bC.out.cell (i := 0) rfl
    have y1 := bA2.out.cell (i := 1) rfl
    have z1 := bC.out.cell (i := 1) rfl
    have y2 := bA2.out.cell (i := 2) rfl
    have z2 := bC.out.cell (i := 2) rfl
    have y3 := bA2.out.cell (i := 3) rfl
    have z3 := bC.out.cell (i := 3) rfl
    have y4 := bA2.out.cell (i := 4) rfl
    have z4 := bC.out.cell (i := 4) rfl
    have y5 := bA2.out.cell (i := 5) rfl
    have z5 := bC.out.cell (i := 5) rfl
    have y6 := bA2.out.cell (i := 6) rfl
    have z6 := bC.out.cell (i := 6) rfl
    have y7 := bA2.out.cell (i := 7) rfl
    have z7 := bC.out.cell (i := 7) rfl
    have y8 := bA2.out.cell (i := 8) rfl
    have z8 := bC.out.cell (i := 8) rfl
    have yl := bA2.out.lt
    have zl := bC.out.lt
    go_wp2
    go_ret
    exact ⟨rfl, hB.out⟩
  subst hg
  have qg : (g == g) = true := beq_self_eq_true _
  have rg : (g != g) = false := bne_self_eq_false _
  have y0 := bA2.out.cell (i := 0) rfl
  have z0 := bC.out.cell (i := 0) rfl
  have y1 := bA2.out.cell (i := 1) rfl
  have z1 := bC.out.cell (i := 1) rfl
  have y2 := bA2.out.cell (i := 2) rfl
  have z2 := bC.out.cell (i := 2) rfl
  have y3 := bA2.out.cell (i := 3) rfl
  have z3 := bC.out.cell (i := 3) rfl
  have y4 := bA2.out.cell (i := 4) rfl
  have z4 := bC.out.cell (i := 4) rfl
  have y5 := bA2.out.cell (i := 5) rfl
  have z5 := bC.out.cell (i := 5) rfl
  have y6 := bA2.out.cell (i := 6) rfl
  have z6 := bC.out.cell (i := 6) rfl
  have y7 := bA2.out.cell (i := 7) rfl
  have z7 := bC.out.cell (i := 7) rfl
  have y8 := bA2.out.cell (i := 8) rfl
  have z8 := bC.out.cell (i := 8) rfl
  have yl := bA2.out.lt
  have zl := bC.out.lt
  have hc := hcW.out _ hB.out
  go_wp2_with fail
  refine hc.mono ?_
  rintro e w3 ⟨rfl, hb3⟩
  have hB3 : Hid (Below w.heap.size w w3) := Lib.hid (hB.out.trans (hb3.mono hB.out.size))
  clear y0 z0 y1 z1 y2 z2 y3 z3 y4 z4 y5 z5 y6 z6 y7 z7 y8 z8 yl zl
  replace bA2 := Lib.hid (show Blk w3 y _ _ from (hb3.block y bA2.out.lt).trans bA2.out)
  replace bC := Lib.hid (show Blk w3 z _ _ from (hb3.block z bC.out.lt).trans bC.out)
  clear hc hb3 hB hcW
  cases QW with
  | false =>
    have y0 := bA2.out.cell (i := 0) rfl
    have z0 := bC.out.cell (i := 0) rfl
    have y1 := bA2.out.cell (i := 1) rfl
    have z1 := bC.out.cell (i := 1) rfl
    have y2 := bA2.out.cell (i := 2) rfl
    have z2 := bC.out.cell (i := 2) rfl
    have y3 := bA2.out.cell (i := 3) rfl
    have z3 := bC.out.cell (i := 3) rfl
    have y4 := bA2.out.cell (i := 4) rfl
    have z4 := bC.out.cell (i := 4) rfl
    have y5 := bA2.out.cell (i := 5) rfl
    have z5 := bC.out.cell (i := 5) rfl
    have y6 := bA2.out.cell (i := 6) rfl
    have z6 := bC.out.cell (i := 6) rfl
    have y7 := bA2.out.cell (i := 7) rfl
    have z7 := bC.out.cell (i := 7) rfl
    have y8 := bA2.out.cell (i := 8) rfl
    have z8 := bC.out.cell (i := 8) rfl
    have yl := bA2.out.lt
    have zl := bC.out.lt
    obtain rfl : X = false := by rw [← hX.out]; simp []
    clear hX
    go_wp2
    go_ret
    exact ⟨rfl, hB3.out⟩
  | true =>
    by_cases hlS : mS = mS'
    rotate_left
    · skip
      obtain rfl : QS = false := hQS.out.symm.trans (same_len _ _ (by rw [hNS.out, hNS'.out]; exact hlS))
      have hn2 : ((mS : Int) == (mS' : Int)) = false := beq_eq_false_iff_ne.2 (by omega)
      have hn3 : ((mS : Int) != (mS' : Int)) = true := bne_iff_ne.2 (by omega)
      have y0 := bA2.out.cell (i := 0) rfl
      have z0 := bC.out.cell (i := 0) rfl
      have y1 := bA2.out.cell (i := 1) rfl
      have z1 := bC.out.cell (i := 1) rfl
      have y2 := bA2.out.cell (i := 2) rfl
      have z2 := bC.out.cell (i := 2) rfl
      have y3 := bA2.out.cell (i := 3) rfl
      have z3 := bC.out.cell (i := 3) rfl
      have y4 := bA2.out.cell (i := 4) rfl
      have z4 := bC.out.cell (i := 4) rfl
      have y5 := bA2.out.cell (i := 5) rfl
      have z5 := bC.out.cell (i := 5) rfl
      have y6 := bA2.out.cell (i := 6) rfl
      have z6 := bC.out.cell (i := 6) rfl
      have y7 := bA2.out.cell (i := 7) rfl
      have z7 := bC.out.cell (i := 7) rfl
      have y8 := bA2.out.cell (i := 8) rfl
      have z8 := bC.out.cell (i := 8) rfl
      have yl := bA2.out.lt
      have zl := bC.out.lt
      obtain rfl : X = false := by rw [← hX.out]; simp []
      clear hX
      go_wp2
      go_ret
      exact ⟨rfl, hB3.out⟩
    subst hlS
    have h2S : ((mS : Int) == (mS : Int)) = true := beq_self_eq_true _
    have h3S : ((mS : Int) != (mS : Int)) = false := bne_self_eq_false _
    by_cases hlR : mR = mR'
    rotate_left
    · skip
      obtain rfl : QR = false := hQR.out.symm.trans (same_len _ _ (by rw [hNR.out, hNR'.out]; exact hlR))
      have hn2 : ((mR : Int) == (mR' : Int)) = false := beq_eq_false_iff_ne.2 (by omega)
      have hn3 : ((mR : Int) != (mR' : Int)) = true := bne_iff_ne.2 (by omega)
      have y0 := bA2.out.cell (i := 0) rfl
      have z0 := bC.out.cell (i := 0) rfl
      have y1 := bA2.out.cell (i := 1) rfl
      have z1 := bC.out.cell (i := 1) rfl
      have y2 := bA2.out.cell (i := 2) rfl
      have z2 := bC.out.cell (i := 2) rfl
      have y3 := bA2.out.cell (i := 3) rfl
      have z3 := bC.out.cell (i := 3) rfl
      have y4 := bA2.out.cell (i := 4) rfl
      have z4 := bC.out.cell (i := 4) rfl
      have y5 := bA2.out.cell (i := 5) rfl
      have z5 := bC.out.cell (i := 5) rfl
      have y6 := bA2.out.cell (i := 6) rfl
      have z6 := bC.out.cell (i := 6) rfl
      have y7 := bA2.out.cell (i := 7) rfl
      have z7 := bC.out.cell (i := 7) rfl
      have y8 := bA2.out.cell (i := 8) rfl
      have z8 := bC.out.cell (i := 8) rfl
      have yl := bA2.out.lt
      have zl := bC.out.lt
      obtain rfl : X = false := by rw [← hX.out]; simp []
      clear hX
      go_wp2
      go_ret
      exact ⟨rfl, hB3.out⟩
    subst hlR
    have h2R : ((mR : Int) == (mR : Int)) = true := beq_self_eq_true _
    have h3R : ((mR : Int) != (mR : Int)) = false := bne_self_eq_false _
    by_cases hlL : mL = mL'
    rotate_left
    · skip
      obtain rfl : QL = false := hQL.out.symm.trans (same_len _ _ (by rw [hNL.out, hNL'.out]; exact hlL))
      have hn2 : ((mL : Int) == (mL' : Int)) = false := beq_eq_false_iff_ne.2 (by omega)
      have hn3 : ((mL : Int) != (mL' : Int)) = true := bne_iff_ne.2 (by omega)
      have y0 := bA2.out.cell (i := 0) rfl
      have z0 := bC.out.cell (i := 0) rfl
      have y1 := bA2.out.cell (i := 1) rfl
      have z1 := bC.out.cell (i := 1) rfl
      have y2 := bA2.out.cell (i := 2) rfl
      have z2 := bC.out.cell (i := 2) rfl
      have y3 := bA2.out.cell (i := 3) rfl
      have z3 := bC.out.cell (i := 3) rfl
      have y4 := bA2.out.cell (i := 4) rfl
      have z4 := bC.out.cell (i := 4) rfl
      have y5 := bA2.out.cell (i := 5) rfl
      have z5 := bC.out.cell (i := 5) rfl
      have y6 := bA2.out.cell (i := 6) rfl
      have z6 := bC.out.cell (i := 6) rfl
      have y7 := bA2.out.cell (i := 7) rfl
      have z7 := bC.out.cell (i := 7) rfl
      have y8 := bA2.out.cell (i := 8) rfl
      have z8 := bC.out.cell (i := 8) rfl
      have yl := bA2.out.lt
      have zl := bC.out.lt
      obtain rfl : X = false := by rw [← hX.out]; simp []
      clear hX
      go_wp2
      go_ret
      exact ⟨rfl, hB3.out⟩
    subst hlL
    have h2L : ((mL : Int) == (mL : Int)) = true := beq_self_eq_true _
    have h3L : ((mL : Int) != (mL : Int)) = false := bne_self_eq_false _
    by_cases hlC : mC = mC'
    rotate_left
    · skip
      obtain rfl : QC = false := hQC.out.symm.trans (same_len _ _ (by rw [hNC.out, hNC'.out]; exact hlC))
      have hn2 : ((mC : Int) == (mC' : Int)) = false := beq_eq_false_iff_ne.2 (by omega)
      have hn3 : ((mC : Int) != (mC' : Int)) = true := bne_iff_ne.2 (by omega)
      have y0 := bA2.out.cell (i := 0) rfl
      have z0 := bC.out.cell (i := 0) rfl
      have y1 := bA2.out.cell (i := 1) rfl
      have z1 := bC.out.cell (i := 1) rfl
      have y2 := bA2.out.cell (i := 2) rfl
      have z2 := bC.out.cell (i := 2) rfl
      have y3 := bA2.out.cell (i := 3) rfl
      have z3 := bC.out.cell (i := 3) rfl
      have y4 := bA2.out.cell (i := 4) rfl
      have z4 := bC.out.cell (i := 4) rfl
      have y5 := bA2.out.cell (i := 5) rfl
      have z5 := bC.out.cell (i := 5) rfl
      have y6 := bA2.out.cell (i := 6) rfl
      have z6 := bC.out.cell (i := 6) rfl
      have y7 := bA2.out.cell (i := 7) rfl
      have z7 := bC.out.cell (i := 7) rfl
      have y8 := bA2.out.cell (i := 8) rfl
      have z8 := bC.out.cell (i := 8) rfl
      have yl := bA2.out.lt
      have zl := bC.out.lt
      obtain rfl : X = false := by rw [← hX.out]; simp []
      clear hX
      go_wp2
      go_ret
      exact ⟨rfl, hB3.out⟩
    subst hlC
    have h2C : ((mC : Int) == (mC : Int)) = true := beq_self_eq_true _
    have h3C : ((mC : Int) != (mC : Int)) = false := bne_self_eq_false _
    have y0 := bA2.out.cell (i := 0) rfl
    have z0 := bC.out.cell (i := 0) rfl
    have y1 := bA2.out.cell (i := 1) rfl
    have z1 := bC.out.cell (i := 1) rfl
    have y2 := bA2.out.cell (i := 2) rfl
    have z2 := bC.out.cell (i := 2) rfl
    have y3 := bA2.out.cell (i := 3) rfl
    have z3 := bC.out.cell (i := 3) rfl
    have y4 := bA2.out.cell (i := 4) rfl
    have z4 := bC.out.cell (i := 4) rfl
    have y5 := bA2.out.cell (i := 5) rfl
    have z5 := bC.out.cell (i := 5) rfl
    have y6 := bA2.out.cell (i := 6) rfl
    have z6 := bC.out.cell (i := 6) rfl
    have y7 := bA2.out.cell (i := 7) rfl
    have z7 := bC.out.cell (i := 7) rfl
    have y8 := bA2.out.cell (i := 8) rfl
    have z8 := bC.out.cell (i := 8) rfl
    have yl := bA2.out.lt
    have zl := bC.out.lt
    go_wp2
    clear y0 z0 y1 z1 y2 z2 y3 z3 y4 z4 y5 z5 y6 z6 y7 z7 y8 z8 yl zl
    have hQ0 : Hid (QS = sameF (S.drop 0) (S'.drop 0)) := Lib.hid hQS.out.symm
    have bY0 := bA2
    have bZ0 := bC
    go_loopw [5] (fun iv wr => ∃ j : Nat, j ≤ mS ∧ iv = .int .i64 (j : Int) ∧ Hid (Below w.heap.size w wr) ∧ Hid (Blk wr y [.int .i64 k, .bool b, .string n, .bool g, .slice AS mS cS, .slice AW mW cW, .slice AR mR cR, .slice AL mL cL, .slice AC mC cC] 43) ∧ Hid (Blk wr z [.int .i64 k, .bool b, .string n, .bool g, .slice AS' mS cS', .slice AW' mW' cW', .slice AR' mR cR', .slice AL' mL cL', .slice AC' mC cC'] 43) ∧ Hid (QS = sameF (S.drop j) (S'.drop j))) (fun iv _ => mS - (intOf iv).toNat)
    case atStart => exact ⟨0, Nat.zero_le _, rfl, hB3, bA2, bC, hQ0⟩
    case round =>
      clear hB3 bA2 bC hQ0 bY0 bZ0
      obtain ⟨j, hj, rfl, hB, bA2, bC, hs⟩ := hrel
      have yi := bA2.out.cell (i := 4) rfl
      have zi := bC.out.cell (i := 4) rfl
      have yl := bA2.out.lt
      have zl := bC.out.lt
      by_cases hlt : j < mS
      · skip
        have hj1 : (0 : Int) ≤ (j : Int) := by omega
        have hj2 : (j : Int) < (mS : Int) := by omega
        have hgo := hs.out.trans (same_nx (hNS.out.trans hNS'.out.symm) (by rw [hNS.out]; exact hlt))
        obtain ⟨B, o, rfl, hBl, hrw⟩ := hsS.out.2.2 (by rw [hNS.out]; omega)
        obtain ⟨B', o', rfl, hBl', hrw'⟩ := hsS'.out.2.2 (by rw [hNS'.out]; omega)
        have hrd := rw_drop j htS.out (by rw [hNS.out]; omega) hrw
        have hrd' := rw_drop j htS'.out (by rw [hNS'.out]; omega) hrw'
        have htd := ty_drop j htS.out
        have htd' := ty_drop j htS'.out
        have hwd := Nat.le_trans (wt_drop j S) hwS.out
        have hpd : 0 < (S.drop j).len := by rw [drop_len, hNS.out]; omega
        have hpd' : 0 < (S'.drop j).len := by rw [drop_len, hNS'.out]; omega
        obtain ⟨n1, x1, r, hfd, htx1, _⟩ := at_set htd hpd
        obtain ⟨n1', x1', r', hfd', htx1', _⟩ := at_set htd' hpd'
        rw [hfd] at hrd hwd hgo
        rw [hfd'] at hrd' hgo
        rw [show szT 2 = 2 from rfl] at hrd hrd'
        simp only [wt] at hwd
        obtain ⟨e0, ⟨Ax1, cx1, e1, hsx1⟩, _⟩ := rw_set.1 (hrd.below hB.out hBl)
        obtain ⟨e0', ⟨Ax1', cx1', e1', hsx1'⟩, _⟩ := rw_set.1 (hrd'.below hB.out hBl')
        have hl : B < wr.heap.size := Nat.lt_of_lt_of_le hBl hB.out.size
        have hl' : B' < wr.heap.size := Nat.lt_of_lt_of_le hBl' hB.out.size
        have hgo : QS = ((decide (n1 = n1') && sameF x1 x1') && sameF (S.drop (j + 1)) (S'.drop (j + 1))) := hgo
        have hcx1 := fun W (hb : Below wr.heap.size wr W) => hn.2 x1 (by omega) htx1 x1' W Ax1 cx1 Ax1' cx1' htx1' (hsx1.below hb) (hsx1'.below hb)
        generalize sameF x1 x1' = Qx1 at hcx1 hgo
        generalize x1.len = mx1 at hcx1 e1
        generalize x1'.len = mx1' at hcx1 e1'
        replace hcx1 := Lib.hid hcx1
        have hS := fun W (hb : Below wr.heap.size wr W) => (⟨cell_below hb hl e0, cell_below hb hl e1, cell_below hb hl' e0', cell_below hb hl' e1', (show Blk W y _ _ from (hb.block y yl).trans bA2.out).cell (i := 4) rfl, (show Blk W z _ _ from (hb.block z zl).trans bC.out).cell (i := 4) rfl⟩ : W.cell? ⟨B, o + j * 2, none⟩ = some (.string n1) ∧ W.cell? ⟨B, o + j * 2 + 1, none⟩ = some (.slice Ax1 mx1 cx1) ∧ W.cell? ⟨B', o' + j * 2, none⟩ = some (.string n1') ∧ W.cell? ⟨B', o' + j * 2 + 1, none⟩ = some (.slice Ax1' mx1' cx1') ∧ W.cell? ⟨y, 4, none⟩ = some (.slice (some ⟨B, o, none⟩) mS cS) ∧ W.cell? ⟨z, 4, none⟩ = some (.slice (some ⟨B', o', none⟩) mS cS'))
        replace hS := Lib.hid hS
        replace hgo := Lib.hid hgo
        have hend := Lib.hid (fun nq => hB.out.trans ((drewN_below wr nq).mono hB.out.size))
        clear hrw hrw' hrd hrd' htd htd' hwd hpd hpd' hs hBl hBl' hfd hfd' htx1 htx1' hsx1 hsx1' e0 e0' e1 e1'
        clear hl hl'
        by_cases hn1 : n1 = n1'
        rotate_left
        · as_aux_lemma =>
            have hsE : QS = false := by rw [hgo.out]; simp [hn1]
            clear hgo
            have qn1 := str_neT hn1
            have rn1 := str_neT' hn1
            clear hn1 hcx1
            have hk0 := hS.out wr (Below.refl _ _)
            have hl : B < wr.heap.size := World.block_lt_of_cell? wr _ hk0.1
            go_upto_region 8 with fail
            go_quiet (fail)
            clear hk0 hl
            subst hsE
            obtain rfl : X = false := by rw [← hX.out]; simp
            clear hX
            go_wp2
            go_ret
            exact ⟨rfl, (hend.out _)⟩
        have qn1 := str_eqT hn1
        subst hn1
        go_upto_region 8 with fail
        have hb0 := drewN_below wr 1
        have hk0 := hS.out wr.drew hb0
        cases Qx1 with
        | false => as_aux_lemma =>
          have hsE : QS = false := by rw [hgo.out]; simp
          clear hgo
          go_region_held3 (fun W => W.cell? ⟨B, o + j * 2, none⟩ = some (.string n1) ∧ W.cell? ⟨B, o + j * 2 + 1, none⟩ = some (.slice Ax1 mx1 cx1) ∧ W.cell? ⟨B', o' + j * 2, none⟩ = some (.string n1) ∧ W.cell? ⟨B', o' + j * 2 + 1, none⟩ = some (.slice Ax1' mx1' cx1') ∧ W.cell? ⟨y, 4, none⟩ = some (.slice (some ⟨B, o, none⟩) mS cS) ∧ W.cell? ⟨z, 4, none⟩ = some (.slice (some ⟨B', o', none⟩) mS cS'))
            (first | go_keep | exact hk0 | exact hk1)
            ((go_at_call 19; refine (hcx1.out _ hb0).mono ?_; rintro e w5 ⟨rfl, hc⟩; have hb1 := hb0.trans (hc.mono hb0.size); have hk1 := hS.out w5 hb1; clear hc))
          have hBE := Lib.hid (hB.out.trans (hb1.mono hB.out.size))
          have hWR := Lib.hid hb1
          clear hk0 hb0 hk1 hb1 hS hend hcx1
          subst hsE
          obtain rfl : X = false := by rw [← hX.out]; simp
          clear hX
          go_wp2
          go_ret
          exact ⟨rfl, hBE.out⟩
        | true =>
          have hsE : Hid (QS = sameF (S.drop (j + 1)) (S'.drop (j + 1))) := Lib.hid (by rw [hgo.out]; simp)
          clear hgo
          go_region_held3 (fun W => W.cell? ⟨B, o + j * 2, none⟩ = some (.string n1) ∧ W.cell? ⟨B, o + j * 2 + 1, none⟩ = some (.slice Ax1 mx1 cx1) ∧ W.cell? ⟨B', o' + j * 2, none⟩ = some (.string n1) ∧ W.cell? ⟨B', o' + j * 2 + 1, none⟩ = some (.slice Ax1' mx1' cx1') ∧ W.cell? ⟨y, 4, none⟩ = some (.slice (some ⟨B, o, none⟩) mS cS) ∧ W.cell? ⟨z, 4, none⟩ = some (.slice (some ⟨B', o', none⟩) mS cS'))
            (first | go_keep | exact hk0 | exact hk1)
            ((go_at_call 19; refine (hcx1.out _ hb0).mono ?_; rintro e w5 ⟨rfl, hc⟩; have hb1 := hb0.trans (hc.mono hb0.size); have hk1 := hS.out w5 hb1; clear hc))
          have hBE := Lib.hid (hB.out.trans (hb1.mono hB.out.size))
          have hWR := Lib.hid hb1
          clear hk0 hb0 hk1 hb1 hS hend hcx1
          have bYE := Lib.hid (show Blk _ y _ _ from (hWR.out.block y yl).trans bA2.out)
          have bZE := Lib.hid (show Blk _ z _ _ from (hWR.out.block z zl).trans bC.out)
          clear hWR bA2 bC yl zl yi zi
          go_wp2
          go_roundw
          case rel => exact ⟨j + 1, by omega, by go_num, hBE, bYE, bZE, hsE⟩
          case measure => simp [intOf]; omega
      · skip
        obtain rfl : j = mS := by omega
        have hj3 : ¬ (j : Int) < (j : Int) := by omega
        obtain rfl : QS = true := hs.out.trans (same_nd (hNS.out.trans hNS'.out.symm) hNS.out.symm)
        clear hs hlt
        skip
        go_wp2
        clear yi zi yl zl
        have hQ0 : Hid (QR = sameF (R.drop 0) (R'.drop 0)) := Lib.hid hQR.out.symm
        have bY0 := bA2
        have bZ0 := bC
        go_loopw [6] (fun iv wr => ∃ i : Nat, i ≤ mR ∧ iv = .int .i64 (i : Int) ∧ Hid (Below w.heap.size w wr) ∧ Hid (Blk wr y [.int .i64 k, .bool b, .string n, .bool g, .slice AS j cS, .slice AW mW cW, .slice AR mR cR, .slice AL mL cL, .slice AC mC cC] 43) ∧ Hid (Blk wr z [.int .i64 k, .bool b, .string n, .bool g, .slice AS' j cS', .slice AW' mW' cW', .slice AR' mR cR', .slice AL' mL cL', .slice AC' mC cC'] 43) ∧ Hid (QR = sameF (R.drop i) (R'.drop i))) (fun iv _ => mR - (intOf iv).toNat)
        case atStart => exact ⟨0, Nat.zero_le _, rfl, hB, bA2, bC, hQ0⟩
        case round =>
          clear hB bA2 bC hQ0 bY0 bZ0
          obtain ⟨i, hj, rfl, hB, bA2, bC, hs⟩ := hrel
          have yi := bA2.out.cell (i := 6) rfl
          have zi := bC.out.cell (i := 6) rfl
          have yl := bA2.out.lt
          have zl := bC.out.lt
          by_cases hlt : i < mR
          · skip
            have hj1 : (0 : Int) ≤ (i : Int) := by omega
            have hj2 : (i : Int) < (mR : Int) := by omega
            have hgo := hs.out.trans (same_nx (hNR.out.trans hNR'.out.symm) (by rw [hNR.out]; exact hlt))
            obtain ⟨B, o, rfl, hBl, hrw⟩ := hsR.out.2.2 (by rw [hNR.out]; omega)
            obtain ⟨B', o', rfl, hBl', hrw'⟩ := hsR'.out.2.2 (by rw [hNR'.out]; omega)
            have hrd := rw_drop i htR.out (by rw [hNR.out]; omega) hrw
            have hrd' := rw_drop i htR'.out (by rw [hNR'.out]; omega) hrw'
            have htd := ty_drop i htR.out
            have htd' := ty_drop i htR'.out
            have hwd := Nat.le_trans (wt_drop i R) hwR.out
            have hpd : 0 < (R.drop i).len := by rw [drop_len, hNR.out]; omega
            have hpd' : 0 < (R'.drop i).len := by rw [drop_len, hNR'.out]; omega
            obtain ⟨d2, k2, x2, r, hfd, _, _, htx2, _⟩ := at_redir htd hpd
            obtain ⟨d2', k2', x2', r', hfd', _, _, htx2', _⟩ := at_redir htd' hpd'
            rw [hfd] at hrd hwd hgo
            rw [hfd'] at hrd' hgo
            rw [show szT 3 = 3 from rfl] at hrd hrd'
            simp only [wt] at hwd
            obtain ⟨e0, e1, ⟨Ax2, cx2, e2, hsx2⟩, _⟩ := rw_redir.1 (hrd.below hB.out hBl)
            obtain ⟨e0', e1', ⟨Ax2', cx2', e2', hsx2'⟩, _⟩ := rw_redir.1 (hrd'.below hB.out hBl')
            have hl : B < wr.heap.size := Nat.lt_of_lt_of_le hBl hB.out.size
            have hl' : B' < wr.heap.size := Nat.lt_of_lt_of_le hBl' hB.out.size
            have hgo : QR = ((decide (d2 = d2') && decide (k2 = k2') && sameF x2 x2') && sameF (R.drop (i + 1)) (R'.drop (i + 1))) := hgo
            have hcx2 := fun W (hb : Below wr.heap.size wr W) => hn.2 x2 (by omega) htx2 x2' W Ax2 cx2 Ax2' cx2' htx2' (hsx2.below hb) (hsx2'.below hb)
            generalize sameF x2 x2' = Qx2 at hcx2 hgo
            generalize x2.len = mx2 at hcx2 e2
            generalize x2'.len = mx2' at hcx2 e2'
            replace hcx2 := Lib.hid hcx2
            have hS := fun W (hb : Below wr.heap.size wr W) => (⟨cell_below hb hl e0, cell_below hb hl e1, cell_below hb hl e2, cell_below hb hl' e0', cell_below hb hl' e1', cell_below hb hl' e2', (show Blk W y _ _ from (hb.block y yl).trans bA2.out).cell (i := 6) rfl, (show Blk W z _ _ from (hb.block z zl).trans bC.out).cell (i := 6) rfl⟩ : W.cell? ⟨B, o + i * 3, none⟩ = some (.int .i64 d2) ∧ W.cell? ⟨B, o + i * 3 + 1, none⟩ = some (.int .i64 k2) ∧ W.cell? ⟨B, o + i * 3 + 2, none⟩ = some (.slice Ax2 mx2 cx2) ∧ W.cell? ⟨B', o' + i * 3, none⟩ = some (.int .i64 d2') ∧ W.cell? ⟨B', o' + i * 3 + 1, none⟩ = some (.int .i64 k2') ∧ W.cell? ⟨B', o' + i * 3 + 2, none⟩ = some (.slice Ax2' mx2' cx2') ∧ W.cell? ⟨y, 6, none⟩ = some (.slice (some ⟨B, o, none⟩) mR cR) ∧ W.cell? ⟨z, 6, none⟩ = some (.slice (some ⟨B', o', none⟩) mR cR'))
            replace hS := Lib.hid hS
            replace hgo := Lib.hid hgo
            have hend := Lib.hid (fun nq => hB.out.trans ((drewN_below wr nq).mono hB.out.size))
            clear hrw hrw' hrd hrd' htd htd' hwd hpd hpd' hs hBl hBl' hfd hfd' htx2 htx2' hsx2 hsx2' e0 e0' e1 e1' e2 e2'
            clear hl hl'
            by_cases hd2 : d2 = d2'
            rotate_left
            · as_aux_lemma =>
                have hsE : QR = false := by rw [hgo.out]; simp [hd2]
                clear hgo
                have qd2 : (d2 == d2') = false := beq_eq_false_iff_ne.2 hd2
                have rd2 : (d2 != d2') = true := bne_iff_ne.2 hd2
                clear hd2 hcx2
                have hk0 := hS.out wr (Below.refl _ _)
                have hl : B < wr.heap.size := World.block_lt_of_cell? wr _ hk0.1
                go_upto_region 13 with fail
                go_quiet (fail)
                clear hk0 hl
                subst hsE
                obtain rfl : X = false := by rw [← hX.out]; simp
                clear hX
                go_wp2
                go_ret
                exact ⟨rfl, (hend.out _)⟩
            subst hd2
            have qd2 : (d2 == d2) = true := beq_self_eq_true _
            have rd2 : (d2 != d2) = false := bne_self_eq_false _
            by_cases hk2 : k2 = k2'
            rotate_left
            · as_aux_lemma =>
                have hsE : QR = false := by rw [hgo.out]; simp [hk2]
                clear hgo
                have qk2 : (k2 == k2') = false := beq_eq_false_iff_ne.2 hk2
                have rk2 : (k2 != k2') = true := bne_iff_ne.2 hk2
                clear hk2 hcx2
                have hk0 := hS.out wr (Below.refl _ _)
                have hl : B < wr.heap.size := World.block_lt_of_cell? wr _ hk0.1
                go_upto_region 13 with fail
                go_quiet (fail)
                clear hk0 hl
                subst hsE
                obtain rfl : X = false := by rw [← hX.out]; simp
                clear hX
                go_wp2
                go_ret
                exact ⟨rfl, (hend.out _)⟩
            subst hk2
            have qk2 : (k2 == k2) = true := beq_self_eq_true _
            have rk2 : (k2 != k2) = false := bne_self_eq_false _
            go_upto_region 13 with fail
            have hb0 := drewN_below wr 1
            have hk0 := hS.out wr.drew hb0
            cases Qx2 with
            | false => as_aux_lemma =>
              have hsE : QR = false := by rw [hgo.out]; simp
              clear hgo
              go_region_held3 (fun W => W.cell? ⟨B, o + i * 3, none⟩ = some (.int .i64 d2) ∧ W.cell? ⟨B, o + i * 3 + 1, none⟩ = some (.int .i64 k2) ∧ W.cell? ⟨B, o + i * 3 + 2, none⟩ = some (.slice Ax2 mx2 cx2) ∧ W.cell? ⟨B', o' + i * 3, none⟩ = some (.int .i64 d2) ∧ W.cell? ⟨B', o' + i * 3 + 1, none⟩ = some (.int .i64 k2) ∧ W.cell? ⟨B', o' + i * 3 + 2, none⟩ = some (.slice Ax2' mx2' cx2') ∧ W.cell? ⟨y, 6, none⟩ = some (.slice (some ⟨B, o, none⟩) mR cR) ∧ W.cell? ⟨z, 6, none⟩ = some (.slice (some ⟨B', o', none⟩) mR cR'))
                (first | go_keep | exact hk0 | exact hk1)
                ((go_at_call 19; refine (hcx2.out _ hb0).mono ?_; rintro e w5 ⟨rfl, hc⟩; have hb1 := hb0.trans (hc.mono hb0.size); have hk1 := hS.out w5 hb1; clear hc))
              have hBE := Lib.hid (hB.out.trans (hb1.mono hB.out.size))
              have hWR := Lib.hid hb1
              clear hk0 hb0 hk1 hb1 hS hend hcx2
              subst hsE
              obtain rfl : X = false := by rw [← hX.out]; simp
              clear hX
              go_wp2
              go_ret
              exact ⟨rfl, hBE.out⟩
            | true =>
              have hsE : Hid (QR = sameF (R.drop (i + 1)) (R'.drop (i + 1))) := Lib.hid (by rw [hgo.out]; simp)
              clear hgo
              go_region_held3 (fun W => W.cell? ⟨B, o + i * 3, none⟩ = some (.int .i64 d2) ∧ W.cell? ⟨B, o + i * 3 + 1, none⟩ = some (.int .i64 k2) ∧ W.cell? ⟨B, o + i * 3 + 2, none⟩ = some (.slice Ax2 mx2 cx2) ∧ W.cell? ⟨B', o' + i * 3, none⟩ = some (.int .i64 d2) ∧ W.cell? ⟨B', o' + i * 3 + 1, none⟩ = some (.int .i64 k2) ∧ W.cell? ⟨B', o' + i * 3 + 2, none⟩ = some (.slice Ax2' mx2' cx2') ∧ W.cell? ⟨y, 6, none⟩ = some (.slice (some ⟨B, o, none⟩) mR cR) ∧ W.cell? ⟨z, 6, none⟩ = some (.slice (some ⟨B', o', none⟩) mR cR'))
                (first | go_keep | exact hk0 | exact hk1)
                ((go_at_call 19; refine (hcx2.out _ hb0).mono ?_; rintro e w5 ⟨rfl, hc⟩; have hb1 := hb0.trans (hc.mono hb0.size); have hk1 := hS.out w5 hb1; clear hc))
              have hBE := Lib.hid (hB.out.trans (hb1.mono hB.out.size))
              have hWR := Lib.hid hb1
              clear hk0 hb0 hk1 hb1 hS hend hcx2
              have bYE := Lib.hid (show Blk _ y _ _ from (hWR.out.block y yl).trans bA2.out)
              have bZE := Lib.hid (show Blk _ z _ _ from (hWR.out.block z zl).trans bC.out)
              clear hWR bA2 bC yl zl yi zi
              go_wp2
              go_roundw
              case rel => exact ⟨i + 1, by omega, by go_num, hBE, bYE, bZE, hsE⟩
              case measure => simp [intOf]; omega
          · skip
            obtain rfl : i = mR := by omega
            have hj3 : ¬ (i : Int) < (i : Int) := by omega
            obtain rfl : QR = true := hs.out.trans (same_nd (hNR.out.trans hNR'.out.symm) hNR.out.symm)
            clear hs hlt
            skip
            go_wp2
            clear yi zi yl zl
            have hQ0 : Hid (QL = sameF (L.drop 0) (L'.drop 0)) := Lib.hid hQL.out.symm
            have bY0 := bA2
            have bZ0 := bC
            go_loopw [7] (fun iv wr => ∃ q : Nat, q ≤ mL ∧ iv = .int .i64 (q : Int) ∧ Hid (Below w.heap.size w wr) ∧ Hid (Blk wr y [.int .i64 k, .bool b, .string n, .bool g, .slice AS j cS, .slice AW mW cW, .slice AR i cR, .slice AL mL cL, .slice AC mC cC] 43) ∧ Hid (Blk wr z [.int .i64 k, .bool b, .string n, .bool g, .slice AS' j cS', .slice AW' mW' cW', .slice AR' i cR', .slice AL' mL cL', .slice AC' mC cC'] 43) ∧ Hid (QL = sameF (L.drop q) (L'.drop q))) (fun iv _ => mL - (intOf iv).toNat)
            case atStart => exact ⟨0, Nat.zero_le _, rfl, hB, bA2, bC, hQ0⟩
            case round =>
              clear hB bA2 bC hQ0 bY0 bZ0
              obtain ⟨q, hj, rfl, hB, bA2, bC, hs⟩ := hrel
              have yi := bA2.out.cell (i := 7) rfl
              have zi := bC.out.cell (i := 7) rfl
              have yl := bA2.out.lt
              have zl := bC.out.lt
              by_cases hlt : q < mL
              · skip
                have hj1 : (0 : Int) ≤ (q : Int) := by omega
                have hj2 : (q : Int) < (mL : Int) := by omega
                have hgo := hs.out.trans (same_nx (hNL.out.trans hNL'.out.symm) (by rw [hNL.out]; exact hlt))
                obtain ⟨B, o, rfl, hBl, hrw⟩ := hsL.out.2.2 (by rw [hNL.out]; omega)
                obtain ⟨B', o', rfl, hBl', hrw'⟩ := hsL'.out.2.2 (by rw [hNL'.out]; omega)
                have hrd := rw_drop q htL.out (by rw [hNL.out]; omega) hrw
                have hrd' := rw_drop q htL'.out (by rw [hNL'.out]; omega) hrw'
                have htd := ty_drop q htL.out
                have htd' := ty_drop q htL'.out
                have hwd := Nat.le_trans (wt_drop q L) hwL.out
                have hpd : 0 < (L.drop q).len := by rw [drop_len, hNL.out]; omega
                have hpd' : 0 < (L'.drop q).len := by rw [drop_len, hNL'.out]; omega
                obtain ⟨x3, r, hfd, htx3, _⟩ := at_list htd hpd
                obtain ⟨x3', r', hfd', htx3', _⟩ := at_list htd' hpd'
                rw [hfd] at hrd hwd hgo
                rw [hfd'] at hrd' hgo
                rw [show szT 6 = 1 from rfl, Nat.mul_one] at hrd hrd'
                simp only [wt] at hwd
                obtain ⟨⟨Ax3, cx3, e0, hsx3⟩, _⟩ := rw_row.1 (hrd.below hB.out hBl)
                obtain ⟨⟨Ax3', cx3', e0', hsx3'⟩, _⟩ := rw_row.1 (hrd'.below hB.out hBl')
                have hl : B < wr.heap.size := Nat.lt_of_lt_of_le hBl hB.out.size
                have hl' : B' < wr.heap.size := Nat.lt_of_lt_of_le hBl' hB.out.size
                have hgo : QL = ((sameF x3 x3') && sameF (L.drop (q + 1)) (L'.drop (q + 1))) := hgo
                have hcx3 := fun W (hb : Below wr.heap.size wr W) => hn.1 x3 (by omega) htx3 x3' W Ax3 cx3 Ax3' cx3' htx3' (hsx3.below hb) (hsx3'.below hb)
                generalize sameF x3 x3' = Qx3 at hcx3 hgo
                generalize x3.len = mx3 at hcx3 e0
                generalize x3'.len = mx3' at hcx3 e0'
                replace hcx3 := Lib.hid hcx3
                have hS := fun W (hb : Below wr.heap.size wr W) => (⟨cell_below hb hl e0, cell_below hb hl' e0', (show Blk W y _ _ from (hb.block y yl).trans bA2.out).cell (i := 7) rfl, (show Blk W z _ _ from (hb.block z zl).trans bC.out).cell (i := 7) rfl⟩ : W.cell? ⟨B, o + q, none⟩ = some (.slice Ax3 mx3 cx3) ∧ W.cell? ⟨B', o' + q, none⟩ = some (.slice Ax3' mx3' cx3') ∧ W.cell? ⟨y, 7, none⟩ = some (.slice (some ⟨B, o, none⟩) mL cL) ∧ W.cell? ⟨z, 7, none⟩ = some (.slice (some ⟨B', o', none⟩) mL cL'))
                replace hS := Lib.hid hS
                replace hgo := Lib.hid hgo
                have hend := Lib.hid (fun nq => hB.out.trans ((drewN_below wr nq).mono hB.out.size))
                clear hrw hrw' hrd hrd' htd htd' hwd hpd hpd' hs hBl hBl' hfd hfd' htx3 htx3' hsx3 hsx3' e0 e0'
                clear hl hl'
                go_upto_region 18 with fail
                have hb0 := drewN_below wr 1
                have hk0 := hS.out wr.drew hb0
                cases Qx3 with
                | false => as_aux_lemma =>
                  have hsE : QL = false := by rw [hgo.out]; simp
                  clear hgo
                  go_region_held3 (fun W => W.cell? ⟨B, o + q, none⟩ = some (.slice Ax3 mx3 cx3) ∧ W.cell? ⟨B', o' + q, none⟩ = some (.slice Ax3' mx3' cx3') ∧ W.cell? ⟨y, 7, none⟩ = some (.slice (some ⟨B, o, none⟩) mL cL) ∧ W.cell? ⟨z, 7, none⟩ = some (.slice (some ⟨B', o', none⟩) mL cL'))
                    (first | go_keep | exact hk0 | exact hk1)
                    ((go_at_call 17; refine (hcx3.out _ hb0).mono ?_; rintro e w5 ⟨rfl, hc⟩; have hb1 := hb0.trans (hc.mono hb0.size); have hk1 := hS.out w5 hb1; clear hc))
                  have hBE := Lib.hid (hB.out.trans (hb1.mono hB.out.size))
                  have hWR := Lib.hid hb1
                  clear hk0 hb0 hk1 hb1 hS hend hcx3
                  subst hsE
                  obtain rfl : X = false := by rw [← hX.out]; simp
                  clear hX
                  go_wp2
                  go_ret
                  exact ⟨rfl, hBE.out⟩
                | true =>
                  have hsE : Hid (QL = sameF (L.drop (q + 1)) (L'.drop (q + 1))) := Lib.hid (by rw [hgo.out]; simp)
                  clear hgo
                  go_region_held3 (fun W => W.cell? ⟨B, o + q, none⟩ = some (.slice Ax3 mx3 cx3) ∧ W.cell? ⟨B', o' + q, none⟩ = some (.slice Ax3' mx3' cx3') ∧ W.cell? ⟨y, 7, none⟩ = some (.slice (some ⟨B, o, none⟩) mL cL) ∧ W.cell? ⟨z, 7, none⟩ = some (.slice (some ⟨B', o', none⟩) mL cL'))
                    (first | go_keep | exact hk0 | exact hk1)
                    ((go_at_call 17; refine (hcx3.out _ hb0).mono ?_; rintro e w5 ⟨rfl, hc⟩; have hb1 := hb0.trans (hc.mono hb0.size); have hk1 := hS.out w5 hb1; clear hc))
                  have hBE := Lib.hid (hB.out.trans (hb1.mono hB.out.size))
                  have hWR := Lib.hid hb1
                  clear hk0 hb0 hk1 hb1 hS hend hcx3
                  have bYE := Lib.hid (show Blk _ y _ _ from (hWR.out.block y yl).trans bA2.out)
                  have bZE := Lib.hid (show Blk _ z _ _ from (hWR.out.block z zl).trans bC.out)
                  clear hWR bA2 bC yl zl yi zi
                  go_wp2
                  go_roundw
                  case rel => exact ⟨q + 1, by omega, by go_num, hBE, bYE, bZE, hsE⟩
                  case measure => simp [intOf]; omega
              · skip
                obtain rfl : q = mL := by omega
                have hj3 : ¬ (q : Int) < (q : Int) := by omega
                obtain rfl : QL = true := hs.out.trans (same_nd (hNL.out.trans hNL'.out.symm) hNL.out.symm)
                clear hs hlt
                skip
                go_wp2
                clear yi zi yl zl
                have hQ0 : Hid (QC = sameF (C.drop 0) (C'.drop 0)) := Lib.hid hQC.out.symm
                have bY0 := bA2
                have bZ0 := bC
                go_loopw [8] (fun iv wr => ∃ p : Nat, p ≤ mC ∧ iv = .int .i64 (p : Int) ∧ Hid (Below w.heap.size w wr) ∧ Hid (Blk wr y [.int .i64 k, .bool b, .string n, .bool g, .slice AS j cS, .slice AW mW cW, .slice AR i cR, .slice AL q cL, .slice AC mC cC] 43) ∧ Hid (Blk wr z [.int .i64 k, .bool b, .string n, .bool g, .slice AS' j cS', .slice AW' mW' cW', .slice AR' i cR', .slice AL' q cL', .slice AC' mC cC'] 43) ∧ Hid (QC = sameF (C.drop p) (C'.drop p))) (fun iv _ => mC - (intOf iv).toNat)
                case atStart => exact ⟨0, Nat.zero_le _, rfl, hB, bA2, bC, hQ0⟩
                case round =>
                  clear hB bA2 bC hQ0 bY0 bZ0
                  obtain ⟨p, hj, rfl, hB, bA2, bC, hs⟩ := hrel
                  have yi := bA2.out.cell (i := 8) rfl
                  have zi := bC.out.cell (i := 8) rfl
                  have yl := bA2.out.lt
                  have zl := bC.out.lt
                  by_cases hlt : p < mC
                  · skip
                    have hj1 : (0 : Int) ≤ (p : Int) := by omega
                    have hj2 : (p : Int) < (mC : Int) := by omega
                    have hgo := hs.out.trans (same_nx (hNC.out.trans hNC'.out.symm) (by rw [hNC.out]; exact hlt))
                    obtain ⟨B, o, rfl, hBl, hrw⟩ := hsC.out.2.2 (by rw [hNC.out]; omega)
                    obtain ⟨B', o', rfl, hBl', hrw'⟩ := hsC'.out.2.2 (by rw [hNC'.out]; omega)
                    have hrd := rw_drop p htC.out (by rw [hNC.out]; omega) hrw
                    have hrd' := rw_drop p htC'.out (by rw [hNC'.out]; omega) hrw'
                    have htd := ty_drop p htC.out
                    have htd' := ty_drop p htC'.out
                    have hwd := Nat.le_trans (wt_drop p C) hwC.out
                    have hpd : 0 < (C.drop p).len := by rw [drop_len, hNC.out]; omega
                    have hpd' : 0 < (C'.drop p).len := by rw [drop_len, hNC'.out]; omega
                    obtain ⟨W4, Y4, r, hfd, htW4, htY4, _⟩ := at_case htd hpd
                    obtain ⟨W4', Y4', r', hfd', htW4', htY4', _⟩ := at_case htd' hpd'
                    rw [hfd] at hrd hwd hgo
                    rw [hfd'] at hrd' hgo
                    rw [show szT 4 = 2 from rfl] at hrd hrd'
                    simp only [wt] at hwd
                    obtain ⟨⟨AW4, cW4, e0, hsW4⟩, ⟨AY4, cY4, e1, hsY4⟩, _⟩ := rw_case.1 (hrd.below hB.out hBl)
                    obtain ⟨⟨AW4', cW4', e0', hsW4'⟩, ⟨AY4', cY4', e1', hsY4'⟩, _⟩ := rw_case.1 (hrd'.below hB.out hBl')
                    have hl : B < wr.heap.size := Nat.lt_of_lt_of_le hBl hB.out.size
                    have hl' : B' < wr.heap.size := Nat.lt_of_lt_of_le hBl' hB.out.size
                    have hgo : QC = ((sameF W4 W4' && sameF Y4 Y4') && sameF (C.drop (p + 1)) (C'.drop (p + 1))) := hgo
                    have hcW4 := fun W (hb : Below wr.heap.size wr W) => r_rows hn htW4 htW4' (by omega) (hsW4.below hb) (hsW4'.below hb)
                    generalize sameF W4 W4' = QW4 at hcW4 hgo
                    generalize W4.len = mW4 at hcW4 e0
                    generalize W4'.len = mW4' at hcW4 e0'
                    replace hcW4 := Lib.hid hcW4
                    have hcY4 := fun W (hb : Below wr.heap.size wr W) => hn.1 Y4 (by omega) htY4 Y4' W AY4 cY4 AY4' cY4' htY4' (hsY4.below hb) (hsY4'.below hb)
                    generalize sameF Y4 Y4' = QY4 at hcY4 hgo
                    generalize Y4.len = mY4 at hcY4 e1
                    generalize Y4'.len = mY4' at hcY4 e1'
                    replace hcY4 := Lib.hid hcY4
                    have hS := fun W (hb : Below wr.heap.size wr W) => (⟨cell_below hb hl e0, cell_below hb hl e1, cell_below hb hl' e0', cell_below hb hl' e1', (show Blk W y _ _ from (hb.block y yl).trans bA2.out).cell (i := 8) rfl, (show Blk W z _ _ from (hb.block z zl).trans bC.out).cell (i := 8) rfl⟩ : W.cell? ⟨B, o + p * 2, none⟩ = some (.slice AW4 mW4 cW4) ∧ W.cell? ⟨B, o + p * 2 + 1, none⟩ = some (.slice AY4 mY4 cY4) ∧ W.cell? ⟨B', o' + p * 2, none⟩ = some (.slice AW4' mW4' cW4') ∧ W.cell? ⟨B', o' + p * 2 + 1, none⟩ = some (.slice AY4' mY4' cY4') ∧ W.cell? ⟨y, 8, none⟩ = some (.slice (some ⟨B, o, none⟩) mC cC) ∧ W.cell? ⟨z, 8, none⟩ = some (.slice (some ⟨B', o', none⟩) mC cC'))
                    replace hS := Lib.hid hS
                    replace hgo := Lib.hid hgo
                    have hend := Lib.hid (fun nq => hB.out.trans ((drewN_below wr nq).mono hB.out.size))
                    clear hrw hrw' hrd hrd' htd htd' hwd hpd hpd' hs hBl hBl' hfd hfd' htW4 htW4' hsW4 hsW4' htY4 htY4' hsY4 hsY4' e0 e0' e1 e1'
                    clear hl hl'
                    go_upto_region 23 with fail
                    have hb0 := drewN_below wr 1
                    have hk0 := hS.out wr.drew hb0
                    cases QW4 with
                    | false => as_aux_lemma =>
                      have hsE : QC = false := by rw [hgo.out]; simp
                      clear hgo
                      refine wp_region_held_drew (S := fun W => W.cell? ⟨B, o + p * 2, none⟩ = some (.slice AW4 mW4 cW4) ∧ W.cell? ⟨B, o + p * 2 + 1, none⟩ = some (.slice AY4 mY4 cY4) ∧ W.cell? ⟨B', o' + p * 2, none⟩ = some (.slice AW4' mW4' cW4') ∧ W.cell? ⟨B', o' + p * 2 + 1, none⟩ = some (.slice AY4' mY4' cY4') ∧ W.cell? ⟨y, 8, none⟩ = some (.slice (some ⟨B, o, none⟩) mC cC) ∧ W.cell? ⟨z, 8, none⟩ = some (.slice (some ⟨B', o', none⟩) mC cC')) (by kernel_rfl) hk0 (fun _ => ?_)
                      refine wpAnyH_take (i := 0) (oi := { dst := some 190, op := Op.fieldAddr 43 (Operand.tmp 2) 8, type := 0, pos := "ref.go:148", after := #[], guard := none }) (v := .pointer (some ⟨y, 8, none⟩)) rfl (by kernel_rfl) (by kernel_rfl) (by kernel_rfl) (fun _ _ _ h => h) (Or.inl ⟨by rfl, ?_⟩) hk0 ?_
                      · intro W hW
                        obtain ⟨k0, k1, k2, k3, k4, k5⟩ := hW
                        clear hk0
                        go_simp
                        try (intro hx; exfalso; omega)
                      try simp only [Act.put, List.setIfInBounds_toArray, List.set_cons_zero, List.set_cons_succ]
                      refine wpAnyH_take (i := 1) (oi := { dst := some 191, op := Op.load 41 (Operand.tmp 190), type := 41, pos := "ref.go:148", after := #[{ on := 0, ground := Ground.data }], guard := none }) (v := .slice (some ⟨B, o, none⟩) mC cC) rfl (by kernel_rfl) (by kernel_rfl) (by kernel_rfl) (fun _ _ _ h => h) (Or.inl ⟨by rfl, ?_⟩) hk0 ?_
                      · intro W hW
                        obtain ⟨k0, k1, k2, k3, k4, k5⟩ := hW
                        clear hk0
                        go_simp
                        try (intro hx; exfalso; omega)
                      try simp only [Act.put, List.setIfInBounds_toArray, List.set_cons_zero, List.set_cons_succ]
                      refine wpAnyH_take (i := 2) (oi := { dst := some 192, op := Op.move (Operand.tmp 8), type := 3, pos := "ref.go:148", after := #[], guard := none }) (v := .int .i64 (p : Int)) rfl (by kernel_rfl) (by kernel_rfl) (by kernel_rfl) (fun _ _ _ h => h) (Or.inl ⟨by rfl, ?_⟩) hk0 ?_
                      · intro W hW
                        obtain ⟨k0, k1, k2, k3, k4, k5⟩ := hW
                        clear hk0
                        go_simp
                        try (intro hx; exfalso; omega)
                      try simp only [Act.put, List.setIfInBounds_toArray, List.set_cons_zero, List.set_cons_succ]
                      refine wpAnyH_take (i := 3) (oi := { dst := some 193, op := Op.indexAddr 41 (Operand.tmp 191) (Operand.tmp 192), type := 0, pos := "ref.go:148", after := #[{ on := 1, ground := Ground.data }, { on := 2, ground := Ground.data }], guard := none }) (v := .pointer (some ⟨B, o + p * 2, none⟩)) rfl (by kernel_rfl) (by kernel_rfl) (by kernel_rfl) (fun _ _ _ h => h) (Or.inl ⟨by rfl, ?_⟩) hk0 ?_
                      · intro W hW
                        obtain ⟨k0, k1, k2, k3, k4, k5⟩ := hW
                        clear hk0
                        go_simp
                        try (intro hx; exfalso; omega)
                      try simp only [Act.put, List.setIfInBounds_toArray, List.set_cons_zero, List.set_cons_succ]
                      refine wpAnyH_take (i := 4) (oi := { dst := some 194, op := Op.fieldAddr 45 (Operand.tmp 193) 0, type := 0, pos := "ref.go:148", after := #[{ on := 3, ground := Ground.data }], guard := none }) (v := .pointer (some ⟨B, o + p * 2, none⟩)) rfl (by kernel_rfl) (by kernel_rfl) (by kernel_rfl) (fun _ _ _ h => h) (Or.inl ⟨by rfl, ?_⟩) hk0 ?_
                      · intro W hW
                        obtain ⟨k0, k1, k2, k3, k4, k5⟩ := hW
                        clear hk0
                        go_simp
                        try (intro hx; exfalso; omega)
                      try simp only [Act.put, List.setIfInBounds_toArray, List.set_cons_zero, List.set_cons_succ]
                      refine wpAnyH_take (i := 5) (oi := { dst := some 195, op := Op.load 38 (Operand.tmp 194), type := 38, pos := "ref.go:148", after := #[{ on := 4, ground := Ground.data }], guard := none }) (v := .slice AW4 mW4 cW4) rfl (by kernel_rfl) (by kernel_rfl) (by kernel_rfl) (fun _ _ _ h => h) (Or.inl ⟨by rfl, ?_⟩) hk0 ?_
                      · intro W hW
                        obtain ⟨k0, k1, k2, k3, k4, k5⟩ := hW
                        clear hk0
                        go_simp
                        try (intro hx; exfalso; omega)
                      try simp only [Act.put, List.setIfInBounds_toArray, List.set_cons_zero, List.set_cons_succ]
                      refine wpAnyH_take (i := 6) (oi := { dst := some 196, op := Op.fieldAddr 43 (Operand.tmp 3) 8, type := 0, pos := "ref.go:148", after := #[], guard := none }) (v := .pointer (some ⟨z, 8, none⟩)) rfl (by kernel_rfl) (by kernel_rfl) (by kernel_rfl) (fun _ _ _ h => h) (Or.inl ⟨by rfl, ?_⟩) hk0 ?_
                      · intro W hW
                        obtain ⟨k0, k1, k2, k3, k4, k5⟩ := hW
                        clear hk0
                        go_simp
                        try (intro hx; exfalso; omega)
                      try simp only [Act.put, List.setIfInBounds_toArray, List.set_cons_zero, List.set_cons_succ]
                      refine wpAnyH_take (i := 7) (oi := { dst := some 197, op := Op.load 41 (Operand.tmp 196), type := 41, pos := "ref.go:148", after := #[{ on := 6, ground := Ground.data }], guard := none }) (v := .slice (some ⟨B', o', none⟩) mC cC') rfl (by kernel_rfl) (by kernel_rfl) (by kernel_rfl) (fun _ _ _ h => h) (Or.inl ⟨by rfl, ?_⟩) hk0 ?_
                      · intro W hW
                        obtain ⟨k0, k1, k2, k3, k4, k5⟩ := hW
                        clear hk0
                        go_simp
                        try (intro hx; exfalso; omega)
                      try simp only [Act.put, List.setIfInBounds_toArray, List.set_cons_zero, List.set_cons_succ]
                      refine wpAnyH_take (i := 8) (oi := { dst := some 198, op := Op.move (Operand.tmp 8), type := 3, pos := "ref.go:148", after := #[], guard := none }) (v := .int .i64 (p : Int)) rfl (by kernel_rfl) (by kernel_rfl) (by kernel_rfl) (fun _ _ _ h => h) (Or.inl ⟨by rfl, ?_⟩) hk0 ?_
                      · intro W hW
                        obtain ⟨k0, k1, k2, k3, k4, k5⟩ := hW
                        clear hk0
                        go_simp
                        try (intro hx; exfalso; omega)
                      try simp only [Act.put, List.setIfInBounds_toArray, List.set_cons_zero, List.set_cons_succ]
                      refine wpAnyH_take (i := 9) (oi := { dst := some 199, op := Op.indexAddr 41 (Operand.tmp 197) (Operand.tmp 198), type := 0, pos := "ref.go:148", after := #[{ on := 7, ground := Ground.data }, { on := 8, ground := Ground.data }], guard := none }) (v := .pointer (some ⟨B', o' + p * 2, none⟩)) rfl (by kernel_rfl) (by kernel_rfl) (by kernel_rfl) (fun _ _ _ h => h) (Or.inl ⟨by rfl, ?_⟩) hk0 ?_
                      · intro W hW
                        obtain ⟨k0, k1, k2, k3, k4, k5⟩ := hW
                        clear hk0
                        go_simp
                        try (intro hx; exfalso; omega)
                      try simp only [Act.put, List.setIfInBounds_toArray, List.set_cons_zero, List.set_cons_succ]
                      refine wpAnyH_take (i := 10) (oi := { dst := some 200, op := Op.fieldAddr 45 (Operand.tmp 199) 0, type := 0, pos := "ref.go:148", after := #[{ on := 9, ground := Ground.data }], guard := none }) (v := .pointer (some ⟨B', o' + p * 2, none⟩)) rfl (by kernel_rfl) (by kernel_rfl) (by kernel_rfl) (fun _ _ _ h => h) (Or.inl ⟨by rfl, ?_⟩) hk0 ?_
                      · intro W hW
                        obtain ⟨k0, k1, k2, k3, k4, k5⟩ := hW
                        clear hk0
                        go_simp
                        try (intro hx; exfalso; omega)
                      try simp only [Act.put, List.setIfInBounds_toArray, List.set_cons_zero, List.set_cons_succ]
                      refine wpAnyH_take (i := 11) (oi := { dst := some 201, op := Op.load 38 (Operand.tmp 200), type := 38, pos := "ref.go:148", after := #[{ on := 10, ground := Ground.data }], guard := none }) (v := .slice AW4' mW4' cW4') rfl (by kernel_rfl) (by kernel_rfl) (by kernel_rfl) (fun _ _ _ h => h) (Or.inl ⟨by rfl, ?_⟩) hk0 ?_
                      · intro W hW
                        obtain ⟨k0, k1, k2, k3, k4, k5⟩ := hW
                        clear hk0
                        go_simp
                        try (intro hx; exfalso; omega)
                      try simp only [Act.put, List.setIfInBounds_toArray, List.set_cons_zero, List.set_cons_succ]
                      refine wpAnyH_ready (rs := [12]) (by kernel_rfl) (by simp) ?_
                      refine AllReadyH.cons (o := { dst := some 202, op := Op.call { callee := Callee.value (Operand.func 56), args := #[Operand.tmp 195, Operand.tmp 201], argTypes := #[38, 38] }, type := 4, pos := "ref.go:148", after := #[{ on := 5, ground := Ground.data }, { on := 11, ground := Ground.data }], guard := none }) rfl (fun K hK => ?_) AllReadyH.nil
                      go_simp
                      (go_at_call 56; refine (hcW4.out _ hb0).mono ?_; rintro e w5 ⟨rfl, hc⟩; have hb1 := hb0.trans (hc.mono hb0.size); have hk1 := hS.out w5 hb1; clear hc hk0)
                      go_wp2_with fail
                      refine hK.out _ _ hk1 (fun _ => ?_)
                      clear hK K
                      try simp only [Act.put, List.setIfInBounds_toArray, List.set_cons_zero, List.set_cons_succ]
                      refine wpAnyH_take (i := 13) (oi := { dst := some 203, op := Op.unOp UnOp.not 4 (Operand.tmp 202), type := 4, pos := "ref.go:148", after := #[{ on := 12, ground := Ground.data }], guard := none }) (v := .bool true) rfl (by kernel_rfl) (by kernel_rfl) (by kernel_rfl) (fun _ _ _ h => h) (Or.inl ⟨by rfl, ?_⟩) hk1 ?_
                      · intro W hW
                        obtain ⟨k0, k1, k2, k3, k4, k5⟩ := hW
                        clear hk1
                        go_simp
                        try (intro hx; exfalso; omega)
                      try simp only [Act.put, List.setIfInBounds_toArray, List.set_cons_zero, List.set_cons_succ]
                      refine wpAnyH_take (i := 14) (oi := { dst := some 204, op := Op.move (Operand.tmp 203), type := 4, pos := "ref.go:148", after := #[{ on := 13, ground := Ground.data }, { on := 12, ground := Ground.chain }], guard := none }) (v := .bool true) rfl (by kernel_rfl) (by kernel_rfl) (by kernel_rfl) (fun _ _ _ h => h) (Or.inl ⟨by rfl, ?_⟩) hk1 ?_
                      · intro W hW
                        obtain ⟨k0, k1, k2, k3, k4, k5⟩ := hW
                        clear hk1
                        go_simp
                        try (intro hx; exfalso; omega)
                      try simp only [Act.put, List.setIfInBounds_toArray, List.set_cons_zero, List.set_cons_succ]
                      refine wpAnyH_take (i := 15) (oi := { dst := some 205, op := Op.fieldAddr 43 (Operand.tmp 2) 8, type := 0, pos := "ref.go:148", after := #[{ on := 14, ground := Ground.guard }], guard := some (14, false) }) (v := undef) rfl (by kernel_rfl) (by kernel_rfl) (by kernel_rfl) (fun _ _ _ h => h) (Or.inr ⟨by rfl, rfl⟩) hk1 ?_
                      try simp only [Act.put, List.setIfInBounds_toArray, List.set_cons_zero, List.set_cons_succ]
                      refine wpAnyH_take (i := 16) (oi := { dst := some 206, op := Op.load 41 (Operand.tmp 205), type := 41, pos := "ref.go:148", after := #[{ on := 15, ground := Ground.data }, { on := 14, ground := Ground.guard }], guard := some (14, false) }) (v := undef) rfl (by kernel_rfl) (by kernel_rfl) (by kernel_rfl) (fun _ _ _ h => h) (Or.inr ⟨by rfl, rfl⟩) hk1 ?_
                      try simp only [Act.put, List.setIfInBounds_toArray, List.set_cons_zero, List.set_cons_succ]
                      refine wpAnyH_take (i := 17) (oi := { dst := some 207, op := Op.move (Operand.tmp 8), type := 3, pos := "ref.go:148", after := #[{ on := 14, ground := Ground.guard }], guard := some (14, false) }) (v := undef) rfl (by kernel_rfl) (by kernel_rfl) (by kernel_rfl) (fun _ _ _ h => h) (Or.inr ⟨by rfl, rfl⟩) hk1 ?_
                      try simp only [Act.put, List.setIfInBounds_toArray, List.set_cons_zero, List.set_cons_succ]
                      refine wpAnyH_take (i := 18) (oi := { dst := some 208, op := Op.indexAddr 41 (Operand.tmp 206) (Operand.tmp 207), type := 0, pos := "ref.go:148", after := #[{ on := 16, ground := Ground.data }, { on := 17, ground := Ground.data }, { on := 14, ground := Ground.guard }], guard := some (14, false) }) (v := undef) rfl (by kernel_rfl) (by kernel_rfl) (by kernel_rfl) (fun _ _ _ h => h) (Or.inr ⟨by rfl, rfl⟩) hk1 ?_
                      try simp only [Act.put, List.setIfInBounds_toArray, List.set_cons_zero, List.set_cons_succ]
                      refine wpAnyH_take (i := 19) (oi := { dst := some 209, op := Op.fieldAddr 45 (Operand.tmp 208) 1, type := 0, pos := "ref.go:148", after := #[{ on := 18, ground := Ground.data }, { on := 14, ground := Ground.guard }], guard := some (14, false) }) (v := undef) rfl (by kernel_rfl) (by kernel_rfl) (by kernel_rfl) (fun _ _ _ h => h) (Or.inr ⟨by rfl, rfl⟩) hk1 ?_
                      try simp only [Act.put, List.setIfInBounds_toArray, List.set_cons_zero, List.set_cons_succ]
                      refine wpAnyH_take (i := 20) (oi := { dst := some 210, op := Op.load 22 (Operand.tmp 209), type := 22, pos := "ref.go:148", after := #[{ on := 19, ground := Ground.data }, { on := 14, ground := Ground.guard }], guard := some (14, false) }) (v := undef) rfl (by kernel_rfl) (by kernel_rfl) (by kernel_rfl) (fun _ _ _ h => h) (Or.inr ⟨by rfl, rfl⟩) hk1 ?_
                      try simp only [Act.put, List.setIfInBounds_toArray, List.set_cons_zero, List.set_cons_succ]
                      refine wpAnyH_take (i := 21) (oi := { dst := some 211, op := Op.fieldAddr 43 (Operand.tmp 3) 8, type := 0, pos := "ref.go:148", after := #[{ on := 14, ground := Ground.guard }], guard := some (14, false) }) (v := undef) rfl (by kernel_rfl) (by kernel_rfl) (by kernel_rfl) (fun _ _ _ h => h) (Or.inr ⟨by rfl, rfl⟩) hk1 ?_
                      try simp only [Act.put, List.setIfInBounds_toArray, List.set_cons_zero, List.set_cons_succ]
                      refine wpAnyH_take (i := 22) (oi := { dst := some 212, op := Op.load 41 (Operand.tmp 211), type := 41, pos := "ref.go:148", after := #[{ on := 21, ground := Ground.data }, { on := 14, ground := Ground.guard }], guard := some (14, false) }) (v := undef) rfl (by kernel_rfl) (by kernel_rfl) (by kernel_rfl) (fun _ _ _ h => h) (Or.inr ⟨by rfl, rfl⟩) hk1 ?_
                      try simp only [Act.put, List.setIfInBounds_toArray, List.set_cons_zero, List.set_cons_succ]
                      refine wpAnyH_take (i := 23) (oi := { dst := some 213, op := Op.move (Operand.tmp 8), type := 3, pos := "ref.go:148", after := #[{ on := 14, ground := Ground.guard }], guard := some (14, false) }) (v := undef) rfl (by kernel_rfl) (by kernel_rfl) (by kernel_rfl) (fun _ _ _ h => h) (Or.inr ⟨by rfl, rfl⟩) hk1 ?_
                      try simp only [Act.put, List.setIfInBounds_toArray, List.set_cons_zero, List.set_cons_succ]
                      refine wpAnyH_take (i := 24) (oi := { dst := some 214, op := Op.indexAddr 41 (Operand.tmp 212) (Operand.tmp 213), type := 0, pos := "ref.go:148", after := #[{ on := 22, ground := Ground.data }, { on := 23, ground := Ground.data }, { on := 14, ground := Ground.guard }], guard := some (14, false) }) (v := undef) rfl (by kernel_rfl) (by kernel_rfl) (by kernel_rfl) (fun _ _ _ h => h) (Or.inr ⟨by rfl, rfl⟩) hk1 ?_
                      try simp only [Act.put, List.setIfInBounds_toArray, List.set_cons_zero, List.set_cons_succ]
                      refine wpAnyH_take (i := 25) (oi := { dst := some 215, op := Op.fieldAddr 45 (Operand.tmp 214) 1, type := 0, pos := "ref.go:148", after := #[{ on := 24, ground := Ground.data }, { on := 14, ground := Ground.guard }], guard := some (14, false) }) (v := undef) rfl (by kernel_rfl) (by kernel_rfl) (by kernel_rfl) (fun _ _ _ h => h) (Or.inr ⟨by rfl, rfl⟩) hk1 ?_
                      try simp only [Act.put, List.setIfInBounds_toArray, List.set_cons_zero, List.set_cons_succ]
                      refine wpAnyH_take (i := 26) (oi := { dst := some 216, op := Op.load 22 (Operand.tmp 215), type := 22, pos := "ref.go:148", after := #[{ on := 25, ground := Ground.data }, { on := 14, ground := Ground.guard }], guard := some (14, false) }) (v := undef) rfl (by kernel_rfl) (by kernel_rfl) (by kernel_rfl) (fun _ _ _ h => h) (Or.inr ⟨by rfl, rfl⟩) hk1 ?_
                      try simp only [Act.put, List.setIfInBounds_toArray, List.set_cons_zero, List.set_cons_succ]
                      refine wpAnyH_take (i := 27) (oi := { dst := some 217, op := Op.call { callee := Callee.value (Operand.func 17), args := #[Operand.tmp 210, Operand.tmp 216], argTypes := #[22, 22] }, type := 4, pos := "ref.go:148", after := #[{ on := 20, ground := Ground.data }, { on := 26, ground := Ground.data }, { on := 14, ground := Ground.chain }, { on := 14, ground := Ground.guard }], guard := some (14, false) }) (v := undef) rfl (by kernel_rfl) (by kernel_rfl) (by kernel_rfl) (fun _ _ _ h => h) (Or.inr ⟨by rfl, rfl⟩) hk1 ?_
                      try simp only [Act.put, List.setIfInBounds_toArray, List.set_cons_zero, List.set_cons_succ]
                      refine wpAnyH_take (i := 28) (oi := { dst := some 218, op := Op.unOp UnOp.not 4 (Operand.tmp 217), type := 4, pos := "ref.go:148", after := #[{ on := 27, ground := Ground.data }, { on := 14, ground := Ground.guard }], guard := some (14, false) }) (v := undef) rfl (by kernel_rfl) (by kernel_rfl) (by kernel_rfl) (fun _ _ _ h => h) (Or.inr ⟨by rfl, rfl⟩) hk1 ?_
                      try simp only [Act.put, List.setIfInBounds_toArray, List.set_cons_zero, List.set_cons_succ]
                      refine wpAnyH_take (i := 29) (oi := { dst := some 219, op := Op.pick (Operand.tmp 204) (Operand.const (Value.bool true)) (Operand.tmp 218), type := 4, pos := "ref.go:148", after := #[{ on := 14, ground := Ground.data }, { on := 28, ground := Ground.data }], guard := none }) (v := .bool true) rfl (by kernel_rfl) (by kernel_rfl) (by kernel_rfl) (fun _ _ _ h => h) (Or.inl ⟨by rfl, ?_⟩) hk1 ?_
                      · intro W hW
                        obtain ⟨k0, k1, k2, k3, k4, k5⟩ := hW
                        clear hk1
                        go_simp
                        try (intro hx; exfalso; omega)
                      try simp only [Act.put, List.setIfInBounds_toArray, List.set_cons_zero, List.set_cons_succ]
                      refine wpAnyH_done (by kernel_rfl) ?_ _
                      have hBE := Lib.hid (hB.out.trans (hb1.mono hB.out.size))
                      have hWR := Lib.hid hb1
                      clear hb0 hb1 hk1 hS hend hcW4 hcY4
                      subst hsE
                      obtain rfl : X = false := by rw [← hX.out]; simp
                      clear hX
                      go_wp2
                      go_ret
                      exact ⟨rfl, hBE.out⟩
                    | true =>
                      cases QY4 with
                      | false => as_aux_lemma =>
                        have hsE : QC = false := by rw [hgo.out]; simp
                        clear hgo
                        refine wp_region_held_drew (S := fun W => W.cell? ⟨B, o + p * 2, none⟩ = some (.slice AW4 mW4 cW4) ∧ W.cell? ⟨B, o + p * 2 + 1, none⟩ = some (.slice AY4 mY4 cY4) ∧ W.cell? ⟨B', o' + p * 2, none⟩ = some (.slice AW4' mW4' cW4') ∧ W.cell? ⟨B', o' + p * 2 + 1, none⟩ = some (.slice AY4' mY4' cY4') ∧ W.cell? ⟨y, 8, none⟩ = some (.slice (some ⟨B, o, none⟩) mC cC) ∧ W.cell? ⟨z, 8, none⟩ = some (.slice (some ⟨B', o', none⟩) mC cC')) (by kernel_rfl) hk0 (fun _ => ?_)
                        refine wpAnyH_take (i := 0) (oi := { dst := some 190, op := Op.fieldAddr 43 (Operand.tmp 2) 8, type := 0, pos := "ref.go:148", after := #[], guard := none }) (v := .pointer (some ⟨y, 8, none⟩)) rfl (by kernel_rfl) (by kernel_rfl) (by kernel_rfl) (fun _ _ _ h => h) (Or.inl ⟨by rfl, ?_⟩) hk0 ?_
                        · intro W hW
                          obtain ⟨k0, k1, k2, k3, k4, k5⟩ := hW
                          clear hk0
                          go_simp
                          try (intro hx; exfalso; omega)
                        try simp only [Act.put, List.setIfInBounds_toArray, List.set_cons_zero, List.set_cons_succ]
                        refine wpAnyH_take (i := 1) (oi := { dst := some 191, op := Op.load 41 (Operand.tmp 190), type := 41, pos := "ref.go:148", after := #[{ on := 0, ground := Ground.data }], guard := none }) (v := .slice (some ⟨B, o, none⟩) mC cC) rfl (by kernel_rfl) (by kernel_rfl) (by kernel_rfl) (fun _ _ _ h => h) (Or.inl ⟨by rfl, ?_⟩) hk0 ?_
                        · intro W hW
                          obtain ⟨k0, k1, k2, k3, k4, k5⟩ := hW
                          clear hk0
                          go_simp
                          try (intro hx; exfalso; omega)
                        try simp only [Act.put, List.setIfInBounds_toArray, List.set_cons_zero, List.set_cons_succ]
                        refine wpAnyH_take (i := 2) (oi := { dst := some 192, op := Op.move (Operand.tmp 8), type := 3, pos := "ref.go:148", after := #[], guard := none }) (v := .int .i64 (p : Int)) rfl (by kernel_rfl) (by kernel_rfl) (by kernel_rfl) (fun _ _ _ h => h) (Or.inl ⟨by rfl, ?_⟩) hk0 ?_
                        · intro W hW
                          obtain ⟨k0, k1, k2, k3, k4, k5⟩ := hW
                          clear hk0
                          go_simp
                          try (intro hx; exfalso; omega)
                        try simp only [Act.put, List.setIfInBounds_toArray, List.set_cons_zero, List.set_cons_succ]
                        refine wpAnyH_take (i := 3) (oi := { dst := some 193, op := Op.indexAddr 41 (Operand.tmp 191) (Operand.tmp 192), type := 0, pos := "ref.go:148", after := #[{ on := 1, ground := Ground.data }, { on := 2, ground := Ground.data }], guard := none }) (v := .pointer (some ⟨B, o + p * 2, none⟩)) rfl (by kernel_rfl) (by kernel_rfl) (by kernel_rfl) (fun _ _ _ h => h) (Or.inl ⟨by rfl, ?_⟩) hk0 ?_
                        · intro W hW
                          obtain ⟨k0, k1, k2, k3, k4, k5⟩ := hW
                          clear hk0
                          go_simp
                          try (intro hx; exfalso; omega)
                        try simp only [Act.put, List.setIfInBounds_toArray, List.set_cons_zero, List.set_cons_succ]
                        refine wpAnyH_take (i := 4) (oi := { dst := some 194, op := Op.fieldAddr 45 (Operand.tmp 193) 0, type := 0, pos := "ref.go:148", after := #[{ on := 3, ground := Ground.data }], guard := none }) (v := .pointer (some ⟨B, o + p * 2, none⟩)) rfl (by kernel_rfl) (by kernel_rfl) (by kernel_rfl) (fun _ _ _ h => h) (Or.inl ⟨by rfl, ?_⟩) hk0 ?_
                        · intro W hW
                          obtain ⟨k0, k1, k2, k3, k4, k5⟩ := hW
                          clear hk0
                          go_simp
                          try (intro hx; exfalso; omega)
                        try simp only [Act.put, List.setIfInBounds_toArray, List.set_cons_zero, List.set_cons_succ]
                        refine wpAnyH_take (i := 5) (oi := { dst := some 195, op := Op.load 38 (Operand.tmp 194), type := 38, pos := "ref.go:148", after := #[{ on := 4, ground := Ground.data }], guard := none }) (v := .slice AW4 mW4 cW4) rfl (by kernel_rfl) (by kernel_rfl) (by kernel_rfl) (fun _ _ _ h => h) (Or.inl ⟨by rfl, ?_⟩) hk0 ?_
                        · intro W hW
                          obtain ⟨k0, k1, k2, k3, k4, k5⟩ := hW
                          clear hk0
                          go_simp
                          try (intro hx; exfalso; omega)
                        try simp only [Act.put, List.setIfInBounds_toArray, List.set_cons_zero, List.set_cons_succ]
                        refine wpAnyH_take (i := 6) (oi := { dst := some 196, op := Op.fieldAddr 43 (Operand.tmp 3) 8, type := 0, pos := "ref.go:148", after := #[], guard := none }) (v := .pointer (some ⟨z, 8, none⟩)) rfl (by kernel_rfl) (by kernel_rfl) (by kernel_rfl) (fun _ _ _ h => h) (Or.inl ⟨by rfl, ?_⟩) hk0 ?_
                        · intro W hW
                          obtain ⟨k0, k1, k2, k3, k4, k5⟩ := hW
                          clear hk0
                          go_simp
                          try (intro hx; exfalso; omega)
                        try simp only [Act.put, List.setIfInBounds_toArray, List.set_cons_zero, List.set_cons_succ]
                        refine wpAnyH_take (i := 7) (oi := { dst := some 197, op := Op.load 41 (Operand.tmp 196), type := 41, pos := "ref.go:148", after := #[{ on := 6, ground := Ground.data }], guard := none }) (v := .slice (some ⟨B', o', none⟩) mC cC') rfl (by kernel_rfl) (by kernel_rfl) (by kernel_rfl) (fun _ _ _ h => h) (Or.inl ⟨by rfl, ?_⟩) hk0 ?_
                        · intro W hW
                          obtain ⟨k0, k1, k2, k3, k4, k5⟩ := hW
                          clear hk0
                          go_simp
                          try (intro hx; exfalso; omega)
                        try simp only [Act.put, List.setIfInBounds_toArray, List.set_cons_zero, List.set_cons_succ]
                        refine wpAnyH_take (i := 8) (oi := { dst := some 198, op := Op.move (Operand.tmp 8), type := 3, pos := "ref.go:148", after := #[], guard := none }) (v := .int .i64 (p : Int)) rfl (by kernel_rfl) (by kernel_rfl) (by kernel_rfl) (fun _ _ _ h => h) (Or.inl ⟨by rfl, ?_⟩) hk0 ?_
                        · intro W hW
                          obtain ⟨k0, k1, k2, k3, k4, k5⟩ := hW
                          clear hk0
                          go_simp
                          try (intro hx; exfalso; omega)
                        try simp only [Act.put, List.setIfInBounds_toArray, List.set_cons_zero, List.set_cons_succ]
                        refine wpAnyH_take (i := 9) (oi := { dst := some 199, op := Op.indexAddr 41 (Operand.tmp 197) (Operand.tmp 198), type := 0, pos := "ref.go:148", after := #[{ on := 7, ground := Ground.data }, { on := 8, ground := Ground.data }], guard := none }) (v := .pointer (some ⟨B', o' + p * 2, none⟩)) rfl (by kernel_rfl) (by kernel_rfl) (by kernel_rfl) (fun _ _ _ h => h) (Or.inl ⟨by rfl, ?_⟩) hk0 ?_
                        · intro W hW
                          obtain ⟨k0, k1, k2, k3, k4, k5⟩ := hW
                          clear hk0
                          go_simp
                          try (intro hx; exfalso; omega)
                        try simp only [Act.put, List.setIfInBounds_toArray, List.set_cons_zero, List.set_cons_succ]
                        refine wpAnyH_take (i := 10) (oi := { dst := some 200, op := Op.fieldAddr 45 (Operand.tmp 199) 0, type := 0, pos := "ref.go:148", after := #[{ on := 9, ground := Ground.data }], guard := none }) (v := .pointer (some ⟨B', o' + p * 2, none⟩)) rfl (by kernel_rfl) (by kernel_rfl) (by kernel_rfl) (fun _ _ _ h => h) (Or.inl ⟨by rfl, ?_⟩) hk0 ?_
                        · intro W hW
                          obtain ⟨k0, k1, k2, k3, k4, k5⟩ := hW
                          clear hk0
                          go_simp
                          try (intro hx; exfalso; omega)
                        try simp only [Act.put, List.setIfInBounds_toArray, List.set_cons_zero, List.set_cons_succ]
                        refine wpAnyH_take (i := 11) (oi := { dst := some 201, op := Op.load 38 (Operand.tmp 200), type := 38, pos := "ref.go:148", after := #[{ on := 10, ground := Ground.data }], guard := none }) (v := .slice AW4' mW4' cW4') rfl (by kernel_rfl) (by kernel_rfl) (by kernel_rfl) (fun _ _ _ h => h) (Or.inl ⟨by rfl, ?_⟩) hk0 ?_
                        · intro W hW
                          obtain ⟨k0, k1, k2, k3, k4, k5⟩ := hW
                          clear hk0
                          go_simp
                          try (intro hx; exfalso; omega)
                        try simp only [Act.put, List.setIfInBounds_toArray, List.set_cons_zero, List.set_cons_succ]
                        refine wpAnyH_ready (rs := [12]) (by kernel_rfl) (by simp) ?_
                        refine AllReadyH.cons (o := { dst := some 202, op := Op.call { callee := Callee.value (Operand.func 56), args := #[Operand.tmp 195, Operand.tmp 201], argTypes := #[38, 38] }, type := 4, pos := "ref.go:148", after := #[{ on := 5, ground := Ground.data }, { on := 11, ground := Ground.data }], guard := none }) rfl (fun K hK => ?_) AllReadyH.nil
                        go_simp
                        (go_at_call 56; refine (hcW4.out _ hb0).mono ?_; rintro e w5 ⟨rfl, hc⟩; have hb1 := hb0.trans (hc.mono hb0.size); have hk1 := hS.out w5 hb1; clear hc hk0)
                        go_wp2_with fail
                        refine hK.out _ _ hk1 (fun _ => ?_)
                        clear hK K
                        try simp only [Act.put, List.setIfInBounds_toArray, List.set_cons_zero, List.set_cons_succ]
                        refine wpAnyH_take (i := 13) (oi := { dst := some 203, op := Op.unOp UnOp.not 4 (Operand.tmp 202), type := 4, pos := "ref.go:148", after := #[{ on := 12, ground := Ground.data }], guard := none }) (v := .bool false) rfl (by kernel_rfl) (by kernel_rfl) (by kernel_rfl) (fun _ _ _ h => h) (Or.inl ⟨by rfl, ?_⟩) hk1 ?_
                        · intro W hW
                          obtain ⟨k0, k1, k2, k3, k4, k5⟩ := hW
                          clear hk1
                          go_simp
                          try (intro hx; exfalso; omega)
                        try simp only [Act.put, List.setIfInBounds_toArray, List.set_cons_zero, List.set_cons_succ]
                        refine wpAnyH_take (i := 14) (oi := { dst := some 204, op := Op.move (Operand.tmp 203), type := 4, pos := "ref.go:148", after := #[{ on := 13, ground := Ground.data }, { on := 12, ground := Ground.chain }], guard := none }) (v := .bool false) rfl (by kernel_rfl) (by kernel_rfl) (by kernel_rfl) (fun _ _ _ h => h) (Or.inl ⟨by rfl, ?_⟩) hk1 ?_
                        · intro W hW
                          obtain ⟨k0, k1, k2, k3, k4, k5⟩ := hW
                          clear hk1
                          go_simp
                          try (intro hx; exfalso; omega)
                        try simp only [Act.put, List.setIfInBounds_toArray, List.set_cons_zero, List.set_cons_succ]
                        refine wpAnyH_take (i := 15) (oi := { dst := some 205, op := Op.fieldAddr 43 (Operand.tmp 2) 8, type := 0, pos := "ref.go:148", after := #[{ on := 14, ground := Ground.guard }], guard := some (14, false) }) (v := .pointer (some ⟨y, 8, none⟩)) rfl (by kernel_rfl) (by kernel_rfl) (by kernel_rfl) (fun _ _ _ h => h) (Or.inl ⟨by rfl, ?_⟩) hk1 ?_
                        · intro W hW
                          obtain ⟨k0, k1, k2, k3, k4, k5⟩ := hW
                          clear hk1
                          go_simp
                          try (intro hx; exfalso; omega)
                        try simp only [Act.put, List.setIfInBounds_toArray, List.set_cons_zero, List.set_cons_succ]
                        refine wpAnyH_take (i := 16) (oi := { dst := some 206, op := Op.load 41 (Operand.tmp 205), type := 41, pos := "ref.go:148", after := #[{ on := 15, ground := Ground.data }, { on := 14, ground := Ground.guard }], guard := some (14, false) }) (v := .slice (some ⟨B, o, none⟩) mC cC) rfl (by kernel_rfl) (by kernel_rfl) (by kernel_rfl) (fun _ _ _ h => h) (Or.inl ⟨by rfl, ?_⟩) hk1 ?_
                        · intro W hW
                          obtain ⟨k0, k1, k2, k3, k4, k5⟩ := hW
                          clear hk1
                          go_simp
                          try (intro hx; exfalso; omega)
                        try simp only [Act.put, List.setIfInBounds_toArray, List.set_cons_zero, List.set_cons_succ]
                        refine wpAnyH_take (i := 17) (oi := { dst := some 207, op := Op.move (Operand.tmp 8), type := 3, pos := "ref.go:148", after := #[{ on := 14, ground := Ground.guard }], guard := some (14, false) }) (v := .int .i64 (p : Int)) rfl (by kernel_rfl) (by kernel_rfl) (by kernel_rfl) (fun _ _ _ h => h) (Or.inl ⟨by rfl, ?_⟩) hk1 ?_
                        · intro W hW
                          obtain ⟨k0, k1, k2, k3, k4, k5⟩ := hW
                          clear hk1
                          go_simp
                          try (intro hx; exfalso; omega)
                        try simp only [Act.put, List.setIfInBounds_toArray, List.set_cons_zero, List.set_cons_succ]
                        refine wpAnyH_take (i := 18) (oi := { dst := some 208, op := Op.indexAddr 41 (Operand.tmp 206) (Operand.tmp 207), type := 0, pos := "ref.go:148", after := #[{ on := 16, ground := Ground.data }, { on := 17, ground := Ground.data }, { on := 14, ground := Ground.guard }], guard := some (14, false) }) (v := .pointer (some ⟨B, o + p * 2, none⟩)) rfl (by kernel_rfl) (by kernel_rfl) (by kernel_rfl) (fun _ _ _ h => h) (Or.inl ⟨by rfl, ?_⟩) hk1 ?_
                        · intro W hW
                          obtain ⟨k0, k1, k2, k3, k4, k5⟩ := hW
                          clear hk1
                          go_simp
                          try (intro hx; exfalso; omega)
                        try simp only [Act.put, List.setIfInBounds_toArray, List.set_cons_zero, List.set_cons_succ]
                        refine wpAnyH_take (i := 19) (oi := { dst := some 209, op := Op.fieldAddr 45 (Operand.tmp 208) 1, type := 0, pos := "ref.go:148", after := #[{ on := 18, ground := Ground.data }, { on := 14, ground := Ground.guard }], guard := some (14, false) }) (v := .pointer (some ⟨B, o + p * 2 + 1, none⟩)) rfl (by kernel_rfl) (by kernel_rfl) (by kernel_rfl) (fun _ _ _ h => h) (Or.inl ⟨by rfl, ?_⟩) hk1 ?_
                        · intro W hW
                          obtain ⟨k0, k1, k2, k3, k4, k5⟩ := hW
                          clear hk1
                          go_simp
                          try (intro hx; exfalso; omega)
                        try simp only [Act.put, List.setIfInBounds_toArray, List.set_cons_zero, List.set_cons_succ]
                        refine wpAnyH_take (i := 20) (oi := { dst := some 210, op := Op.load 22 (Operand.tmp 209), type := 22, pos := "ref.go:148", after := #[{ on := 19, ground := Ground.data }, { on := 14, ground := Ground.guard }], guard := some (14, false) }) (v := .slice AY4 mY4 cY4) rfl (by kernel_rfl) (by kernel_rfl) (by kernel_rfl) (fun _ _ _ h => h) (Or.inl ⟨by rfl, ?_⟩) hk1 ?_
                        · intro W hW
                          obtain ⟨k0, k1, k2, k3, k4, k5⟩ := hW
                          clear hk1
                          go_simp
                          try (intro hx; exfalso; omega)
                        try simp only [Act.put, List.setIfInBounds_toArray, List.set_cons_zero, List.set_cons_succ]
                        refine wpAnyH_take (i := 21) (oi := { dst := some 211, op := Op.fieldAddr 43 (Operand.tmp 3) 8, type := 0, pos := "ref.go:148", after := #[{ on := 14, ground := Ground.guard }], guard := some (14, false) }) (v := .pointer (some ⟨z, 8, none⟩)) rfl (by kernel_rfl) (by kernel_rfl) (by kernel_rfl) (fun _ _ _ h => h) (Or.inl ⟨by rfl, ?_⟩) hk1 ?_
                        · intro W hW
                          obtain ⟨k0, k1, k2, k3, k4, k5⟩ := hW
                          clear hk1
                          go_simp
                          try (intro hx; exfalso; omega)
                        try simp only [Act.put, List.setIfInBounds_toArray, List.set_cons_zero, List.set_cons_succ]
                        refine wpAnyH_take (i := 22) (oi := { dst := some 212, op := Op.load 41 (Operand.tmp 211), type := 41, pos := "ref.go:148", after := #[{ on := 21, ground := Ground.data }, { on := 14, ground := Ground.guard }], guard := some (14, false) }) (v := .slice (some ⟨B', o', none⟩) mC cC') rfl (by kernel_rfl) (by kernel_rfl) (by kernel_rfl) (fun _ _ _ h => h) (Or.inl ⟨by rfl, ?_⟩) hk1 ?_
                        · intro W hW
                          obtain ⟨k0, k1, k2, k3, k4, k5⟩ := hW
                          clear hk1
                          go_simp
                          try (intro hx; exfalso; omega)
                        try simp only [Act.put, List.setIfInBounds_toArray, List.set_cons_zero, List.set_cons_succ]
                        refine wpAnyH_take (i := 23) (oi := { dst := some 213, op := Op.move (Operand.tmp 8), type := 3, pos := "ref.go:148", after := #[{ on := 14, ground := Ground.guard }], guard := some (14, false) }) (v := .int .i64 (p : Int)) rfl (by kernel_rfl) (by kernel_rfl) (by kernel_rfl) (fun _ _ _ h => h) (Or.inl ⟨by rfl, ?_⟩) hk1 ?_
                        · intro W hW
                          obtain ⟨k0, k1, k2, k3, k4, k5⟩ := hW
                          clear hk1
                          go_simp
                          try (intro hx; exfalso; omega)
                        try simp only [Act.put, List.setIfInBounds_toArray, List.set_cons_zero, List.set_cons_succ]
                        refine wpAnyH_take (i := 24) (oi := { dst := some 214, op := Op.indexAddr 41 (Operand.tmp 212) (Operand.tmp 213), type := 0, pos := "ref.go:148", after := #[{ on := 22, ground := Ground.data }, { on := 23, ground := Ground.data }, { on := 14, ground := Ground.guard }], guard := some (14, false) }) (v := .pointer (some ⟨B', o' + p * 2, none⟩)) rfl (by kernel_rfl) (by kernel_rfl) (by kernel_rfl) (fun _ _ _ h => h) (Or.inl ⟨by rfl, ?_⟩) hk1 ?_
                        · intro W hW
                          obtain ⟨k0, k1, k2, k3, k4, k5⟩ := hW
                          clear hk1
                          go_simp
                          try (intro hx; exfalso; omega)
                        try simp only [Act.put, List.setIfInBounds_toArray, List.set_cons_zero, List.set_cons_succ]
                        refine wpAnyH_take (i := 25) (oi := { dst := some 215, op := Op.fieldAddr 45 (Operand.tmp 214) 1, type := 0, pos := "ref.go:148", after := #[{ on := 24, ground := Ground.data }, { on := 14, ground := Ground.guard }], guard := some (14, false) }) (v := .pointer (some ⟨B', o' + p * 2 + 1, none⟩)) rfl (by kernel_rfl) (by kernel_rfl) (by kernel_rfl) (fun _ _ _ h => h) (Or.inl ⟨by rfl, ?_⟩) hk1 ?_
                        · intro W hW
                          obtain ⟨k0, k1, k2, k3, k4, k5⟩ := hW
                          clear hk1
                          go_simp
                          try (intro hx; exfalso; omega)
                        try simp only [Act.put, List.setIfInBounds_toArray, List.set_cons_zero, List.set_cons_succ]
                        refine wpAnyH_take (i := 26) (oi := { dst := some 216, op := Op.load 22 (Operand.tmp 215), type := 22, pos := "ref.go:148", after := #[{ on := 25, ground := Ground.data }, { on := 14, ground := Ground.guard }], guard := some (14, false) }) (v := .slice AY4' mY4' cY4') rfl (by kernel_rfl) (by kernel_rfl) (by kernel_rfl) (fun _ _ _ h => h) (Or.inl ⟨by rfl, ?_⟩) hk1 ?_
                        · intro W hW
                          obtain ⟨k0, k1, k2, k3, k4, k5⟩ := hW
                          clear hk1
                          go_simp
                          try (intro hx; exfalso; omega)
                        try simp only [Act.put, List.setIfInBounds_toArray, List.set_cons_zero, List.set_cons_succ]
                        refine wpAnyH_ready (rs := [27]) (by kernel_rfl) (by simp) ?_
                        refine AllReadyH.cons (o := { dst := some 217, op := Op.call { callee := Callee.value (Operand.func 17), args := #[Operand.tmp 210, Operand.tmp 216], argTypes := #[22, 22] }, type := 4, pos := "ref.go:148", after := #[{ on := 20, ground := Ground.data }, { on := 26, ground := Ground.data }, { on := 14, ground := Ground.chain }, { on := 14, ground := Ground.guard }], guard := some (14, false) }) rfl (fun K hK => ?_) AllReadyH.nil
                        go_simp
                        (go_at_call 17; refine (hcY4.out _ hb1).mono ?_; rintro e w6 ⟨rfl, hc⟩; have hb2 := hb1.trans (hc.mono hb1.size); have hk2 := hS.out w6 hb2; clear hc hk1)
                        go_wp2_with fail
                        refine hK.out _ _ hk2 (fun _ => ?_)
                        clear hK K
                        try simp only [Act.put, List.setIfInBounds_toArray, List.set_cons_zero, List.set_cons_succ]
                        refine wpAnyH_take (i := 28) (oi := { dst := some 218, op := Op.unOp UnOp.not 4 (Operand.tmp 217), type := 4, pos := "ref.go:148", after := #[{ on := 27, ground := Ground.data }, { on := 14, ground := Ground.guard }], guard := some (14, false) }) (v := .bool true) rfl (by kernel_rfl) (by kernel_rfl) (by kernel_rfl) (fun _ _ _ h => h) (Or.inl ⟨by rfl, ?_⟩) hk2 ?_
                        · intro W hW
                          obtain ⟨k0, k1, k2, k3, k4, k5⟩ := hW
                          clear hk2
                          go_simp
                          try (intro hx; exfalso; omega)
                        try simp only [Act.put, List.setIfInBounds_toArray, List.set_cons_zero, List.set_cons_succ]
                        refine wpAnyH_take (i := 29) (oi := { dst := some 219, op := Op.pick (Operand.tmp 204) (Operand.const (Value.bool true)) (Operand.tmp 218), type := 4, pos := "ref.go:148", after := #[{ on := 14, ground := Ground.data }, { on := 28, ground := Ground.data }], guard := none }) (v := .bool true) rfl (by kernel_rfl) (by kernel_rfl) (by kernel_rfl) (fun _ _ _ h => h) (Or.inl ⟨by rfl, ?_⟩) hk2 ?_
                        · intro W hW
                          obtain ⟨k0, k1, k2, k3, k4, k5⟩ := hW
                          clear hk2
                          go_simp
                          try (intro hx; exfalso; omega)
                        try simp only [Act.put, List.setIfInBounds_toArray, List.set_cons_zero, List.set_cons_succ]
                        refine wpAnyH_done (by kernel_rfl) ?_ _
                        have hBE := Lib.hid (hB.out.trans (hb2.mono hB.out.size))
                        have hWR := Lib.hid hb2
                        clear hb0 hb1 hb2 hk2 hS hend hcW4 hcY4
                        subst hsE
                        obtain rfl : X = false := by rw [← hX.out]; simp
                        clear hX
                        go_wp2
                        go_ret
                        exact ⟨rfl, hBE.out⟩
                      | true =>
                        have hsE : Hid (QC = sameF (C.drop (p + 1)) (C'.drop (p + 1))) := Lib.hid (by rw [hgo.out]; simp)
                        clear hgo
                        refine wp_region_held_drew (S := fun W => W.cell? ⟨B, o + p * 2, none⟩ = some (.slice AW4 mW4 cW4) ∧ W.cell? ⟨B, o + p * 2 + 1, none⟩ = some (.slice AY4 mY4 cY4) ∧ W.cell? ⟨B', o' + p * 2, none⟩ = some (.slice AW4' mW4' cW4') ∧ W.cell? ⟨B', o' + p * 2 + 1, none⟩ = some (.slice AY4' mY4' cY4') ∧ W.cell? ⟨y, 8, none⟩ = some (.slice (some ⟨B, o, none⟩) mC cC) ∧ W.cell? ⟨z, 8, none⟩ = some (.slice (some ⟨B', o', none⟩) mC cC')) (by kernel_rfl) hk0 (fun _ => ?_)
                        refine wpAnyH_take (i := 0) (oi := { dst := some 190, op := Op.fieldAddr 43 (Operand.tmp 2) 8, type := 0, pos := "ref.go:148", after := #[], guard := none }) (v := .pointer (some ⟨y, 8, none⟩)) rfl (by kernel_rfl) (by kernel_rfl) (by kernel_rfl) (fun _ _ _ h => h) (Or.inl ⟨by rfl, ?_⟩) hk0 ?_
                        · intro W hW
                          obtain ⟨k0, k1, k2, k3, k4, k5⟩ := hW
                          clear hk0
                          go_simp
                          try (intro hx; exfalso; omega)
                        try simp only [Act.put, List.setIfInBounds_toArray, List.set_cons_zero, List.set_cons_succ]
                        refine wpAnyH_take (i := 1) (oi := { dst := some 191, op := Op.load 41 (Operand.tmp 190), type := 41, pos := "ref.go:148", after := #[{ on := 0, ground := Ground.data }], guard := none }) (v := .slice (some ⟨B, o, none⟩) mC cC) rfl (by kernel_rfl) (by kernel_rfl) (by kernel_rfl) (fun _ _ _ h => h) (Or.inl ⟨by rfl, ?_⟩) hk0 ?_
                        · intro W hW
                          obtain ⟨k0, k1, k2, k3, k4, k5⟩ := hW
                          clear hk0
                          go_simp
                          try (intro hx; exfalso; omega)
                        try simp only [Act.put, List.setIfInBounds_toArray, List.set_cons_zero, List.set_cons_succ]
                        refine wpAnyH_take (i := 2) (oi := { dst := some 192, op := Op.move (Operand.tmp 8), type := 3, pos := "ref.go:148", after := #[], guard := none }) (v := .int .i64 (p : Int)) rfl (by kernel_rfl) (by kernel_rfl) (by kernel_rfl) (fun _ _ _ h => h) (Or.inl ⟨by rfl, ?_⟩) hk0 ?_
                        · intro W hW
                          obtain ⟨k0, k1, k2, k3, k4, k5⟩ := hW
                          clear hk0
                          go_simp
                          try (intro hx; exfalso; omega)
                        try simp only [Act.put, List.setIfInBounds_toArray, List.set_cons_zero, List.set_cons_succ]
                        refine wpAnyH_take (i := 3) (oi := { dst := some 193, op := Op.indexAddr 41 (Operand.tmp 191) (Operand.tmp 192), type := 0, pos := "ref.go:148", after := #[{ on := 1, ground := Ground.data }, { on := 2, ground := Ground.data }], guard := none }) (v := .pointer (some ⟨B, o + p * 2, none⟩)) rfl (by kernel_rfl) (by kernel_rfl) (by kernel_rfl) (fun _ _ _ h => h) (Or.inl ⟨by rfl, ?_⟩) hk0 ?_
                        · intro W hW
                          obtain ⟨k0, k1, k2, k3, k4, k5⟩ := hW
                          clear hk0
                          go_simp
                          try (intro hx; exfalso; omega)
                        try simp only [Act.put, List.setIfInBounds_toArray, List.set_cons_zero, List.set_cons_succ]
                        refine wpAnyH_take (i := 4) (oi := { dst := some 194, op := Op.fieldAddr 45 (Operand.tmp 193) 0, type := 0, pos := "ref.go:148", after := #[{ on := 3, ground := Ground.data }], guard := none }) (v := .pointer (some ⟨B, o + p * 2, none⟩)) rfl (by kernel_rfl) (by kernel_rfl) (by kernel_rfl) (fun _ _ _ h => h) (Or.inl ⟨by rfl, ?_⟩) hk0 ?_
                        · intro W hW
                          obtain ⟨k0, k1, k2, k3, k4, k5⟩ := hW
                          clear hk0
                          go_simp
                          try (intro hx; exfalso; omega)
                        try simp only [Act.put, List.setIfInBounds_toArray, List.set_cons_zero, List.set_cons_succ]
                        refine wpAnyH_take (i := 5) (oi := { dst := some 195, op := Op.load 38 (Operand.tmp 194), type := 38, pos := "ref.go:148", after := #[{ on := 4, ground := Ground.data }], guard := none }) (v := .slice AW4 mW4 cW4) rfl (by kernel_rfl) (by kernel_rfl) (by kernel_rfl) (fun _ _ _ h => h) (Or.inl ⟨by rfl, ?_⟩) hk0 ?_
                        · intro W hW
                          obtain ⟨k0, k1, k2, k3, k4, k5⟩ := hW
                          clear hk0
                          go_simp
                          try (intro hx; exfalso; omega)
                        try simp only [Act.put, List.setIfInBounds_toArray, List.set_cons_zero, List.set_cons_succ]
                        refine wpAnyH_take (i := 6) (oi := { dst := some 196, op := Op.fieldAddr 43 (Operand.tmp 3) 8, type := 0, pos := "ref.go:148", after := #[], guard := none }) (v := .pointer (some ⟨z, 8, none⟩)) rfl (by kernel_rfl) (by kernel_rfl) (by kernel_rfl) (fun _ _ _ h => h) (Or.inl ⟨by rfl, ?_⟩) hk0 ?_
                        · intro W hW
                          obtain ⟨k0, k1, k2, k3, k4, k5⟩ := hW
                          clear hk0
                          go_simp
                          try (intro hx; exfalso; omega)
                        try simp only [Act.put, List.setIfInBounds_toArray, List.set_cons_zero, List.set_cons_succ]
                        refine wpAnyH_take (i := 7) (oi := { dst := some 197, op := Op.load 41 (Operand.tmp 196), type := 41, pos := "ref.go:148", after := #[{ on := 6, ground := Ground.data }], guard := none }) (v := .slice (some ⟨B', o', none⟩) mC cC') rfl (by kernel_rfl) (by kernel_rfl) (by kernel_rfl) (fun _ _ _ h => h) (Or.inl ⟨by rfl, ?_⟩) hk0 ?_
                        · intro W hW
                          obtain ⟨k0, k1, k2, k3, k4, k5⟩ := hW
                          clear hk0
                          go_simp
                          try (intro hx; exfalso; omega)
                        try simp only [Act.put, List.setIfInBounds_toArray, List.set_cons_zero, List.set_cons_succ]
                        refine wpAnyH_take (i := 8) (oi := { dst := some 198, op := Op.move (Operand.tmp 8), type := 3, pos := "ref.go:148", after := #[], guard := none }) (v := .int .i64 (p : Int)) rfl (by kernel_rfl) (by kernel_rfl) (by kernel_rfl) (fun _ _ _ h => h) (Or.inl ⟨by rfl, ?_⟩) hk0 ?_
                        · intro W hW
                          obtain ⟨k0, k1, k2, k3, k4, k5⟩ := hW
                          clear hk0
                          go_simp
                          try (intro hx; exfalso; omega)
                        try simp only [Act.put, List.setIfInBounds_toArray, List.set_cons_zero, List.set_cons_succ]
                        refine wpAnyH_take (i := 9) (oi := { dst := some 199, op := Op.indexAddr 41 (Operand.tmp 197) (Operand.tmp 198), type := 0, pos := "ref.go:148", after := #[{ on := 7, ground := Ground.data }, { on := 8, ground := Ground.data }], guard := none }) (v := .pointer (some ⟨B', o' + p * 2, none⟩)) rfl (by kernel_rfl) (by kernel_rfl) (by kernel_rfl) (fun _ _ _ h => h) (Or.inl ⟨by rfl, ?_⟩) hk0 ?_
                        · intro W hW
                          obtain ⟨k0, k1, k2, k3, k4, k5⟩ := hW
                          clear hk0
                          go_simp
                          try (intro hx; exfalso; omega)
                        try simp only [Act.put, List.setIfInBounds_toArray, List.set_cons_zero, List.set_cons_succ]
                        refine wpAnyH_take (i := 10) (oi := { dst := some 200, op := Op.fieldAddr 45 (Operand.tmp 199) 0, type := 0, pos := "ref.go:148", after := #[{ on := 9, ground := Ground.data }], guard := none }) (v := .pointer (some ⟨B', o' + p * 2, none⟩)) rfl (by kernel_rfl) (by kernel_rfl) (by kernel_rfl) (fun _ _ _ h => h) (Or.inl ⟨by rfl, ?_⟩) hk0 ?_
                        · intro W hW
                          obtain ⟨k0, k1, k2, k3, k4, k5⟩ := hW
                          clear hk0
                          go_simp
                          try (intro hx; exfalso; omega)
                        try simp only [Act.put, List.setIfInBounds_toArray, List.set_cons_zero, List.set_cons_succ]
                        refine wpAnyH_take (i := 11) (oi := { dst := some 201, op := Op.load 38 (Operand.tmp 200), type := 38, pos := "ref.go:148", after := #[{ on := 10, ground := Ground.data }], guard := none }) (v := .slice AW4' mW4' cW4') rfl (by kernel_rfl) (by kernel_rfl) (by kernel_rfl) (fun _ _ _ h => h) (Or.inl ⟨by rfl, ?_⟩) hk0 ?_
                        · intro W hW
                          obtain ⟨k0, k1, k2, k3, k4, k5⟩ := hW
                          clear hk0
                          go_simp
                          try (intro hx; exfalso; omega)
                        try simp only [Act.put, List.setIfInBounds_toArray, List.set_cons_zero, List.set_cons_succ]
                        refine wpAnyH_ready (rs := [12]) (by kernel_rfl) (by simp) ?_
                        refine AllReadyH.cons (o := { dst := some 202, op := Op.call { callee := Callee.value (Operand.func 56), args := #[Operand.tmp 195, Operand.tmp 201], argTypes := #[38, 38] }, type := 4, pos := "ref.go:148", after := #[{ on := 5, ground := Ground.data }, { on := 11, ground := Ground.data }], guard := none }) rfl (fun K hK => ?_) AllReadyH.nil
                        go_simp
                        (go_at_call 56; refine (hcW4.out _ hb0).mono ?_; rintro e w5 ⟨rfl, hc⟩; have hb1 := hb0.trans (hc.mono hb0.size); have hk1 := hS.out w5 hb1; clear hc hk0)
                        go_wp2_with fail
                        refine hK.out _ _ hk1 (fun _ => ?_)
                        clear hK K
                        try simp only [Act.put, List.setIfInBounds_toArray, List.set_cons_zero, List.set_cons_succ]
                        refine wpAnyH_take (i := 13) (oi := { dst := some 203, op := Op.unOp UnOp.not 4 (Operand.tmp 202), type := 4, pos := "ref.go:148", after := #[{ on := 12, ground := Ground.data }], guard := none }) (v := .bool false) rfl (by kernel_rfl) (by kernel_rfl) (by kernel_rfl) (fun _ _ _ h => h) (Or.inl ⟨by rfl, ?_⟩) hk1 ?_
                        · intro W hW
                          obtain ⟨k0, k1, k2, k3, k4, k5⟩ := hW
                          clear hk1
                          go_simp
                          try (intro hx; exfalso; omega)
                        try simp only [Act.put, List.setIfInBounds_toArray, List.set_cons_zero, List.set_cons_succ]
                        refine wpAnyH_take (i := 14) (oi := { dst := some 204, op := Op.move (Operand.tmp 203), type := 4, pos := "ref.go:148", after := #[{ on := 13, ground := Ground.data }, { on := 12, ground := Ground.chain }], guard := none }) (v := .bool false) rfl (by kernel_rfl) (by kernel_rfl) (by kernel_rfl) (fun _ _ _ h => h) (Or.inl ⟨by rfl, ?_⟩) hk1 ?_
                        · intro W hW
                          obtain ⟨k0, k1, k2, k3, k4, k5⟩ := hW
                          clear hk1
                          go_simp
                          try (intro hx; exfalso; omega)
                        try simp only [Act.put, List.setIfInBounds_toArray, List.set_cons_zero, List.set_cons_succ]
                        refine wpAnyH_take (i := 15) (oi := { dst := some 205, op := Op.fieldAddr 43 (Operand.tmp 2) 8, type := 0, pos := "ref.go:148", after := #[{ on := 14, ground := Ground.guard }], guard := some (14, false) }) (v := .pointer (some ⟨y, 8, none⟩)) rfl (by kernel_rfl) (by kernel_rfl) (by kernel_rfl) (fun _ _ _ h => h) (Or.inl ⟨by rfl, ?_⟩) hk1 ?_
                        · intro W hW
                          obtain ⟨k0, k1, k2, k3, k4, k5⟩ := hW
                          clear hk1
                          go_simp
                          try (intro hx; exfalso; omega)
                        try simp only [Act.put, List.setIfInBounds_toArray, List.set_cons_zero, List.set_cons_succ]
                        refine wpAnyH_take (i := 16) (oi := { dst := some 206, op := Op.load 41 (Operand.tmp 205), type := 41, pos := "ref.go:148", after := #[{ on := 15, ground := Ground.data }, { on := 14, ground := Ground.guard }], guard := some (14, false) }) (v := .slice (some ⟨B, o, none⟩) mC cC) rfl (by kernel_rfl) (by kernel_rfl) (by kernel_rfl) (fun _ _ _ h => h) (Or.inl ⟨by rfl, ?_⟩) hk1 ?_
                        · intro W hW
                          obtain ⟨k0, k1, k2, k3, k4, k5⟩ := hW
                          clear hk1
                          go_simp
                          try (intro hx; exfalso; omega)
                        try simp only [Act.put, List.setIfInBounds_toArray, List.set_cons_zero, List.set_cons_succ]
                        refine wpAnyH_take (i := 17) (oi := { dst := some 207, op := Op.move (Operand.tmp 8), type := 3, pos := "ref.go:148", after := #[{ on := 14, ground := Ground.guard }], guard := some (14, false) }) (v := .int .i64 (p : Int)) rfl (by kernel_rfl) (by kernel_rfl) (by kernel_rfl) (fun _ _ _ h => h) (Or.inl ⟨by rfl, ?_⟩) hk1 ?_
                        · intro W hW
                          obtain ⟨k0, k1, k2, k3, k4, k5⟩ := hW
                          clear hk1
                          go_simp
                          try (intro hx; exfalso; omega)
                        try simp only [Act.put, List.setIfInBounds_toArray, List.set_cons_zero, List.set_cons_succ]
                        refine wpAnyH_take (i := 18) (oi := { dst := some 208, op := Op.indexAddr 41 (Operand.tmp 206) (Operand.tmp 207), type := 0, pos := "ref.go:148", after := #[{ on := 16, ground := Ground.data }, { on := 17, ground := Ground.data }, { on := 14, ground := Ground.guard }], guard := some (14, false) }) (v := .pointer (some ⟨B, o + p * 2, none⟩)) rfl (by kernel_rfl) (by kernel_rfl) (by kernel_rfl) (fun _ _ _ h => h) (Or.inl ⟨by rfl, ?_⟩) hk1 ?_
                        · intro W hW
                          obtain ⟨k0, k1, k2, k3, k4, k5⟩ := hW
                          clear hk1
                          go_simp
                          try (intro hx; exfalso; omega)
                        try simp only [Act.put, List.setIfInBounds_toArray, List.set_cons_zero, List.set_cons_succ]
                        refine wpAnyH_take (i := 19) (oi := { dst := some 209, op := Op.fieldAddr 45 (Operand.tmp 208) 1, type := 0, pos := "ref.go:148", after := #[{ on := 18, ground := Ground.data }, { on := 14, ground := Ground.guard }], guard := some (14, false) }) (v := .pointer (some ⟨B, o + p * 2 + 1, none⟩)) rfl (by kernel_rfl) (by kernel_rfl) (by kernel_rfl) (fun _ _ _ h => h) (Or.inl ⟨by rfl, ?_⟩) hk1 ?_
                        · intro W hW
                          obtain ⟨k0, k1, k2, k3, k4, k5⟩ := hW
                          clear hk1
                          go_simp
                          try (intro hx; exfalso; omega)
                        try simp only [Act.put, List.setIfInBounds_toArray, List.set_cons_zero, List.set_cons_succ]
                        refine wpAnyH_take (i := 20) (oi := { dst := some 210, op := Op.load 22 (Operand.tmp 209), type := 22, pos := "ref.go:148", after := #[{ on := 19, ground := Ground.data }, { on := 14, ground := Ground.guard }], guard := some (14, false) }) (v := .slice AY4 mY4 cY4) rfl (by kernel_rfl) (by kernel_rfl) (by kernel_rfl) (fun _ _ _ h => h) (Or.inl ⟨by rfl, ?_⟩) hk1 ?_
                        · intro W hW
                          obtain ⟨k0, k1, k2, k3, k4, k5⟩ := hW
                          clear hk1
                          go_simp
                          try (intro hx; exfalso; omega)
                        try simp only [Act.put, List.setIfInBounds_toArray, List.set_cons_zero, List.set_cons_succ]
                        refine wpAnyH_take (i := 21) (oi := { dst := some 211, op := Op.fieldAddr 43 (Operand.tmp 3) 8, type := 0, pos := "ref.go:148", after := #[{ on := 14, ground := Ground.guard }], guard := some (14, false) }) (v := .pointer (some ⟨z, 8, none⟩)) rfl (by kernel_rfl) (by kernel_rfl) (by kernel_rfl) (fun _ _ _ h => h) (Or.inl ⟨by rfl, ?_⟩) hk1 ?_
                        · intro W hW
                          obtain ⟨k0, k1, k2, k3, k4, k5⟩ := hW
                          clear hk1
                          go_simp
                          try (intro hx; exfalso; omega)
                        try simp only [Act.put, List.setIfInBounds_toArray, List.set_cons_zero, List.set_cons_succ]
                        refine wpAnyH_take (i := 22) (oi := { dst := some 212, op := Op.load 41 (Operand.tmp 211), type := 41, pos := "ref.go:148", after := #[{ on := 21, ground := Ground.data }, { on := 14, ground := Ground.guard }], guard := some (14, false) }) (v := .slice (some ⟨B', o', none⟩) mC cC') rfl (by kernel_rfl) (by kernel_rfl) (by kernel_rfl) (fun _ _ _ h => h) (Or.inl ⟨by rfl, ?_⟩) hk1 ?_
                        · intro W hW
                          obtain ⟨k0, k1, k2, k3, k4, k5⟩ := hW
                          clear hk1
                          go_simp
                          try (intro hx; exfalso; omega)
                        try simp only [Act.put, List.setIfInBounds_toArray, List.set_cons_zero, List.set_cons_succ]
                        refine wpAnyH_take (i := 23) (oi := { dst := some 213, op := Op.move (Operand.tmp 8), type := 3, pos := "ref.go:148", after := #[{ on := 14, ground := Ground.guard }], guard := some (14, false) }) (v := .int .i64 (p : Int)) rfl (by kernel_rfl) (by kernel_rfl) (by kernel_rfl) (fun _ _ _ h => h) (Or.inl ⟨by rfl, ?_⟩) hk1 ?_
                        · intro W hW
                          obtain ⟨k0, k1, k2, k3, k4, k5⟩ := hW
                          clear hk1
                          go_simp
                          try (intro hx; exfalso; omega)
                        try simp only [Act.put, List.setIfInBounds_toArray, List.set_cons_zero, List.set_cons_succ]
                        refine wpAnyH_take (i := 24) (oi := { dst := some 214, op := Op.indexAddr 41 (Operand.tmp 212) (Operand.tmp 213), type := 0, pos := "ref.go:148", after := #[{ on := 22, ground := Ground.data }, { on := 23, ground := Ground.data }, { on := 14, ground := Ground.guard }], guard := some (14, false) }) (v := .pointer (some ⟨B', o' + p * 2, none⟩)) rfl (by kernel_rfl) (by kernel_rfl) (by kernel_rfl) (fun _ _ _ h => h) (Or.inl ⟨by rfl, ?_⟩) hk1 ?_
                        · intro W hW
                          obtain ⟨k0, k1, k2, k3, k4, k5⟩ := hW
                          clear hk1
                          go_simp
                          try (intro hx; exfalso; omega)
                        try simp only [Act.put, List.setIfInBounds_toArray, List.set_cons_zero, List.set_cons_succ]
                        refine wpAnyH_take (i := 25) (oi := { dst := some 215, op := Op.fieldAddr 45 (Operand.tmp 214) 1, type := 0, pos := "ref.go:148", after := #[{ on := 24, ground := Ground.data }, { on := 14, ground := Ground.guard }], guard := some (14, false) }) (v := .pointer (some ⟨B', o' + p * 2 + 1, none⟩)) rfl (by kernel_rfl) (by kernel_rfl) (by kernel_rfl) (fun _ _ _ h => h) (Or.inl ⟨by rfl, ?_⟩) hk1 ?_
                        · intro W hW
                          obtain ⟨k0, k1, k2, k3, k4, k5⟩ := hW
                          clear hk1
                          go_simp
                          try (intro hx; exfalso; omega)
                        try simp only [Act.put, List.setIfInBounds_toArray, List.set_cons_zero, List.set_cons_succ]
                        refine wpAnyH_take (i := 26) (oi := { dst := some 216, op := Op.load 22 (Operand.tmp 215), type := 22, pos := "ref.go:148", after := #[{ on := 25, ground := Ground.data }, { on := 14, ground := Ground.guard }], guard := some (14, false) }) (v := .slice AY4' mY4' cY4') rfl (by kernel_rfl) (by kernel_rfl) (by kernel_rfl) (fun _ _ _ h => h) (Or.inl ⟨by rfl, ?_⟩) hk1 ?_
                        · intro W hW
                          obtain ⟨k0, k1, k2, k3, k4, k5⟩ := hW
                          clear hk1
                          go_simp
                          try (intro hx; exfalso; omega)
                        try simp only [Act.put, List.setIfInBounds_toArray, List.set_cons_zero, List.set_cons_succ]
                        refine wpAnyH_ready (rs := [27]) (by kernel_rfl) (by simp) ?_
                        refine AllReadyH.cons (o := { dst := some 217, op := Op.call { callee := Callee.value (Operand.func 17), args := #[Operand.tmp 210, Operand.tmp 216], argTypes := #[22, 22] }, type := 4, pos := "ref.go:148", after := #[{ on := 20, ground := Ground.data }, { on := 26, ground := Ground.data }, { on := 14, ground := Ground.chain }, { on := 14, ground := Ground.guard }], guard := some (14, false) }) rfl (fun K hK => ?_) AllReadyH.nil
                        go_simp
                        (go_at_call 17; refine (hcY4.out _ hb1).mono ?_; rintro e w6 ⟨rfl, hc⟩; have hb2 := hb1.trans (hc.mono hb1.size); have hk2 := hS.out w6 hb2; clear hc hk1)
                        go_wp2_with fail
                        refine hK.out _ _ hk2 (fun _ => ?_)
                        clear hK K
                        try simp only [Act.put, List.setIfInBounds_toArray, List.set_cons_zero, List.set_cons_succ]
                        refine wpAnyH_take (i := 28) (oi := { dst := some 218, op := Op.unOp UnOp.not 4 (Operand.tmp 217), type := 4, pos := "ref.go:148", after := #[{ on := 27, ground := Ground.data }, { on := 14, ground := Ground.guard }], guard := some (14, false) }) (v := .bool false) rfl (by kernel_rfl) (by kernel_rfl) (by kernel_rfl) (fun _ _ _ h => h) (Or.inl ⟨by rfl, ?_⟩) hk2 ?_
                        · intro W hW
                          obtain ⟨k0, k1, k2, k3, k4, k5⟩ := hW
                          clear hk2
                          go_simp
                          try (intro hx; exfalso; omega)
                        try simp only [Act.put, List.setIfInBounds_toArray, List.set_cons_zero, List.set_cons_succ]
                        refine wpAnyH_take (i := 29) (oi := { dst := some 219, op := Op.pick (Operand.tmp 204) (Operand.const (Value.bool true)) (Operand.tmp 218), type := 4, pos := "ref.go:148", after := #[{ on := 14, ground := Ground.data }, { on := 28, ground := Ground.data }], guard := none }) (v := .bool false) rfl (by kernel_rfl) (by kernel_rfl) (by kernel_rfl) (fun _ _ _ h => h) (Or.inl ⟨by rfl, ?_⟩) hk2 ?_
                        · intro W hW
                          obtain ⟨k0, k1, k2, k3, k4, k5⟩ := hW
                          clear hk2
                          go_simp
                          try (intro hx; exfalso; omega)
                        try simp only [Act.put, List.setIfInBounds_toArray, List.set_cons_zero, List.set_cons_succ]
                        refine wpAnyH_done (by kernel_rfl) ?_ _
                        have hBE := Lib.hid (hB.out.trans (hb2.mono hB.out.size))
                        have hWR := Lib.hid hb2
                        clear hb0 hb1 hb2 hk2 hS hend hcW4 hcY4
                        have bYE := Lib.hid (show Blk _ y _ _ from (hWR.out.block y yl).trans bA2.out)
                        have bZE := Lib.hid (show Blk _ z _ _ from (hWR.out.block z zl).trans bC.out)
                        clear hWR bA2 bC yl zl yi zi
                        go_wp2
                        go_roundw
                        case rel => exact ⟨p + 1, by omega, by go_num, hBE, bYE, bZE, hsE⟩
                        case measure => simp [intOf]; omega
                  · skip
                    obtain rfl : p = mC := by omega
                    have hj3 : ¬ (p : Int) < (p : Int) := by omega
                    obtain rfl : QC = true := hs.out.trans (same_nd (hNC.out.trans hNC'.out.symm) hNC.out.symm)
                    clear hs hlt
                    obtain rfl : X = true := by rw [← hX.out]; simp
                    clear hX
                    go_wp2
                    go_ret
                    exact ⟨rfl, hB.out⟩
set_option maxRecDepth 100000 in
set_option maxHeartbeats 8000000 in
theorem r_nodes {cap0 cap0' : Nat} (hn : RSameOk n0) (ht : Ty f 0) (ht' : Ty f' 0) (hw : wt f ≤ n0) (h : Slc w A cap0 f) (h' : Slc w A' cap0' f') :
    Calls Tryz.prog 17 #[.slice A f.len cap0, .slice A' f'.len cap0'] w fun e w' => e = .returned (.bool (sameF f f')) ∧ Below w.heap.size w w' := by
  obtain ⟨N, hN⟩ : ∃ N, f.len = N := ⟨_, rfl⟩
  obtain ⟨N', hN'⟩ : ∃ N, f'.len = N := ⟨_, rfl⟩
  obtain ⟨X, hX⟩ : ∃ X, sameF f f' = X := ⟨_, rfl⟩
  have hm := h.1
  have hcm := h.2.1
  have hm' := h'.1
  have hcm' := h'.2.1
  have hX0 : Hid (X = sameF (f.drop 0) (f'.drop 0)) := Lib.hid hX.symm
  rw [hN, hN', hX]
  rw [hN] at hm
  rw [hN'] at hm'
  unfold maxLen at hcm hcm'
  have hB0 : Hid (Below w.heap.size w w) := Lib.hid (Below.refl _ _)
  replace h := Lib.hid h
  replace h' := Lib.hid h'
  replace ht := Lib.hid ht
  replace ht' := Lib.hid ht'
  replace hw := Lib.hid hw
  replace hX := Lib.hid hX
  replace hN := Lib.hid hN
  replace hN' := Lib.hid hN'
  by_cases hne : N = N'
  · subst hne
    have hnn : ((N : Int) != (N : Int)) = false := bne_self_eq_false _
    go_enter Tryz.func17, Tryz.ntmps17
    go_wp2
    go_loopw [5] (fun iv wr => ∃ j : Nat, j ≤ N ∧ iv = .int .i64 (j : Int) ∧ Hid (Below w.heap.size w wr) ∧ Hid (X = sameF (f.drop j) (f'.drop j))) (fun iv _ => N - (intOf iv).toNat)
    case atStart => exact ⟨0, Nat.zero_le _, rfl, hB0, hX0⟩
    case round =>
      clear hB0 hX0
      obtain ⟨j, hj, rfl, hB, hs⟩ := hrel
      by_cases hlt : j < N
      · skip
        have hj1 : (0 : Int) ≤ (j : Int) := by omega
        have hj2 : (j : Int) < (N : Int) := by omega
        have hgo := hs.out.trans (same_nx (hN.out.trans hN'.out.symm) (by rw [hN.out]; exact hlt))
        obtain ⟨B, o, rfl, hBl, hrw⟩ := h.out.2.2 (by rw [hN.out]; omega)
        obtain ⟨B', o', rfl, hBl', hrw'⟩ := h'.out.2.2 (by rw [hN'.out]; omega)
        have hrd := rw_drop j ht.out (by rw [hN.out]; omega) hrw
        have hrd' := rw_drop j ht'.out (by rw [hN'.out]; omega) hrw'
        have htd := ty_drop j ht.out
        have htd' := ty_drop j ht'.out
        have hwd := Nat.le_trans (wt_drop j f) hw.out
        have hpd : 0 < (f.drop j).len := by rw [drop_len, hN.out]; omega
        have hpd' : 0 < (f'.drop j).len := by rw [drop_len, hN'.out]; omega
        rw [show szT 0 = 9 from rfl] at hrd hrd'
        obtain ⟨k, b, n, g, AS, mS, cS, AW, mW, cW, AR, mR, cR, AL, mL, cL, AC, mC, cC, e0, e1, e2, e3, e4, e5, e6, e7, e8, hv⟩ := el_node (hrd.below hB.out hBl) htd hpd
        obtain ⟨k', b', n', g', AS', mS', cS', AW', mW', cW', AR', mR', cR', AL', mL', cL', AC', mC', cC', e0', e1', e2', e3', e4', e5', e6', e7', e8', hv'⟩ := el_node (hrd'.below hB.out hBl') htd' hpd'
        have hone := fun W (hb : Below wr.heap.size wr W) => el_rone hn htd htd' hpd hpd' hwd W _ _ (hv.below hb) (hv'.below hb)
        generalize sameH (f.drop j) (f'.drop j) = QH at hgo hone
        have hl : B < wr.heap.size := Nat.lt_of_lt_of_le hBl hB.out.size
        have hl' : B' < wr.heap.size := Nat.lt_of_lt_of_le hBl' hB.out.size
        have hS := fun W (hb : Below wr.heap.size wr W) => (⟨cell_below hb hl e0, cell_below hb hl e1, cell_below hb hl e2, cell_below hb hl e3, cell_below hb hl e4, cell_below hb hl e5, cell_below hb hl e6, cell_below hb hl e7, cell_below hb hl e8, cell_below hb hl' e0', cell_below hb hl' e1', cell_below hb hl' e2', cell_below hb hl' e3', cell_below hb hl' e4', cell_below hb hl' e5', cell_below hb hl' e6', cell_below hb hl' e7', cell_below hb hl' e8'⟩ : W.cell? ⟨B, o + j * 9, none⟩ = some (.int .i64 k) ∧ W.cell? ⟨B, o + j * 9 + 1, none⟩ = some (.bool b) ∧ W.cell? ⟨B, o + j * 9 + 2, none⟩ = some (.string n) ∧ W.cell? ⟨B, o + j * 9 + 3, none⟩ = some (.bool g) ∧ W.cell? ⟨B, o + j * 9 + 4, none⟩ = some (.slice AS mS cS) ∧ W.cell? ⟨B, o + j * 9 + 5, none⟩ = some (.slice AW mW cW) ∧ W.cell? ⟨B, o + j * 9 + 6, none⟩ = some (.slice AR mR cR) ∧ W.cell? ⟨B, o + j * 9 + 7, none⟩ = some (.slice AL mL cL) ∧ W.cell? ⟨B, o + j * 9 + 8, none⟩ = some (.slice AC mC cC) ∧ W.cell? ⟨B', o' + j * 9, none⟩ = some (.int .i64 k') ∧ W.cell? ⟨B', o' + j * 9 + 1, none⟩ = some (.bool b') ∧ W.cell? ⟨B', o' + j * 9 + 2, none⟩ = some (.string n') ∧ W.cell? ⟨B', o' + j * 9 + 3, none⟩ = some (.bool g') ∧ W.cell? ⟨B', o' + j * 9 + 4, none⟩ = some (.slice AS' mS' cS') ∧ W.cell? ⟨B', o' + j * 9 + 5, none⟩ = some (.slice AW' mW' cW') ∧ W.cell? ⟨B', o' + j * 9 + 6, none⟩ = some (.slice AR' mR' cR') ∧ W.cell? ⟨B', o' + j * 9 + 7, none⟩ = some (.slice AL' mL' cL') ∧ W.cell? ⟨B', o' + j * 9 + 8, none⟩ = some (.slice AC' mC' cC'))
        replace hS := Lib.hid hS
        replace hone := Lib.hid hone
        replace hgo := Lib.hid hgo
        clear hrw hrw' hrd hrd' htd htd' hwd hpd hpd' hv hv' hs hBl hBl'
        go_upto_region 6 with fail
        clear e0 e0' e1 e1' e2 e2' e3 e3' e4 e4' e5 e5' e6 e6' e7 e7' e8 e8'
        have hb0 := drewN_below wr 1
        have hk0 := hS.out wr.drew hb0
        go_region_held3 (fun W => W.cell? ⟨B, o + j * 9, none⟩ = some (.int .i64 k) ∧ W.cell? ⟨B, o + j * 9 + 1, none⟩ = some (.bool b) ∧ W.cell? ⟨B, o + j * 9 + 2, none⟩ = some (.string n) ∧ W.cell? ⟨B, o + j * 9 + 3, none⟩ = some (.bool g) ∧ W.cell? ⟨B, o + j * 9 + 4, none⟩ = some (.slice AS mS cS) ∧ W.cell? ⟨B, o + j * 9 + 5, none⟩ = some (.slice AW mW cW) ∧ W.cell? ⟨B, o + j * 9 + 6, none⟩ = some (.slice AR mR cR) ∧ W.cell? ⟨B, o + j * 9 + 7, none⟩ = some (.slice AL mL cL) ∧ W.cell? ⟨B, o + j * 9 + 8, none⟩ = some (.slice AC mC cC) ∧ W.cell? ⟨B', o' + j * 9, none⟩ = some (.int .i64 k') ∧ W.cell? ⟨B', o' + j * 9 + 1, none⟩ = some (.bool b') ∧ W.cell? ⟨B', o' + j * 9 + 2, none⟩ = some (.string n') ∧ W.cell? ⟨B', o' + j * 9 + 3, none⟩ = some (.bool g') ∧ W.cell? ⟨B', o' + j * 9 + 4, none⟩ = some (.slice AS' mS' cS') ∧ W.cell? ⟨B', o' + j * 9 + 5, none⟩ = some (.slice AW' mW' cW') ∧ W.cell? ⟨B', o' + j * 9 + 6, none⟩ = some (.slice AR' mR' cR') ∧ W.cell? ⟨B', o' + j * 9 + 7, none⟩ = some (.slice AL' mL' cL') ∧ W.cell? ⟨B', o' + j * 9 + 8, none⟩ = some (.slice AC' mC' cC'))
          (first | go_keep | exact hk0 | exact hk1)
          ((go_at_call 34; refine (hone.out _ hb0).mono ?_; rintro e w5 ⟨rfl, hb5⟩; have hk1 := hS.out w5 (hb0.trans (hb5.mono hb0.size)); have hBE := Lib.hid (hB.out.trans ((hb0.trans (hb5.mono hb0.size)).mono hB.out.size)); clear hb5))
        clear hk0 hk1 hb0 hS hone hl hl'
        cases QH with
        | true =>
          have hsE : Hid (X = sameF (f.drop (j + 1)) (f'.drop (j + 1))) := Lib.hid (by rw [hgo.out]; rfl)
          clear hgo
          go_wp2
          go_roundw
          case rel => exact ⟨j + 1, by omega, by go_num, hBE, hsE⟩
          case measure => simp [intOf]; omega
        | false =>
          have hsE : X = false := by rw [hgo.out]; rfl
          clear hgo
          subst hsE
          go_wp2
          go_ret
          exact ⟨rfl, hBE.out⟩
      · obtain rfl : j = N := by omega
        have hj3 : ¬ (j : Int) < (j : Int) := by omega
        have hsE : X = true := hs.out.trans (same_nd (hN.out.trans hN'.out.symm) hN.out.symm)
        subst hsE
        clear hs
        go_wp2
        go_ret
        exact ⟨rfl, hB.out⟩
  · have hsE : X = false := hX.out.symm.trans (same_len _ _ (by rw [hN.out, hN'.out]; exact hne))
    subst hsE
    have hn2 : ((N : Int) == (N' : Int)) = false := beq_eq_false_iff_ne.2 (by omega)
    have hn3 : ((N : Int) != (N' : Int)) = true := bne_iff_ne.2 (by omega)
    go_enter Tryz.func17, Tryz.ntmps17
    go_wp2
    go_ret
    exact ⟨rfl, hB0.out⟩
end
theorem rSameOk : ∀ n, RSameOk n := fun n => by
  induction n with
  | zero => exact ⟨fun f h => absurd h (Nat.not_lt_zero _), fun f h => absurd h (Nat.not_lt_zero _)⟩
  | succ n ih => exact ⟨fun f hf ht f' W A c A' c' ht' h h' => r_nodes ih ht ht' (by omega) h h', fun f hf ht f' W A c A' c' ht' h h' => r_pieces ih ht ht' (by omega) h h'⟩
theorem rSame_any {f f' : F} {W : World} {A A' : Option Addr} {c c' : Nat} (ht : Ty f 0) (ht' : Ty f' 0) (h : Slc W A c f) (h' : Slc W A' c' f') : Calls Tryz.prog 17 #[.slice A f.len c, .slice A' f'.len c'] W fun e w' => e = .returned (.bool (sameF f f')) ∧ Below W.heap.size W w' := (rSameOk (wt f + 1)).1 f (Nat.lt_succ_self _) ht f' W A c A' c' ht' h h'
theorem rWords_any {f f' : F} {W : World} {A A' : Option Addr} {c c' : Nat} (ht : Ty f 1) (ht' : Ty f' 1) (h : Slc W A c f) (h' : Slc W A' c' f') : Calls Tryz.prog 19 #[.slice A f.len c, .slice A' f'.len c'] W fun e w' => e = .returned (.bool (sameF f f')) ∧ Below W.heap.size W w' := (rSameOk (wt f + 1)).2 f (Nat.lt_succ_self _) ht f' W A c A' c' ht' h h'
section
end
end Go.Proofs.YtmchfoedjajbdaaGreat
