/-
  trees: a judge over a list; trees.Check. Conditions: not too great.
-/
import Derived.Test.YtmchfoedjajbdaaGreatProg
import Derived.Deep.RegionHeld3
import Derived.Deep.QuietTactic
import Derived.BigQuiet
import Derived.Deep.CutRange
import Derived.Deep.LoopGhost
import Derived.Test.YtmchfoedjajbdaaGreatZq0
import Derived.Test.YtmchfoedjajbdaaGreatZq10
set_option linter.unusedSimpArgs false
set_option linter.unusedVariables false
namespace Go.Proofs.YtmchfoedjajbdaaGreat
open Go Go.RowKit Go.ChangeMaps Go.MapKept

section
variable {n0 : Nat} {w0 w : World} {A : Option Addr} {c0 jb cm pm a : Nat} {f g : F} {v : Value}
set_option maxRecDepth 100000 in
set_option maxHeartbeats 16000000 in
theorem jnode_any (hn : JOk n0) (ht : Ty g 0) (hp : 0 < g.len) (hw : wt g ≤ n0) (hy : byF g ≤ 1000000) (hJ : Jd w0 w jb cm pm a) (ha : a + wt g ≤ 4194304) (hv : ElV w0 g v) :
    Calls Tryz.prog 45 #[.pointer (some ⟨jb, 0, none⟩), v] w fun e w' => e = .returned (.bool (okH g 0 (decide (0 < a)))) ∧ Below w.heap.size w w' := by
  obtain ⟨k, b, n, gv, S, W, R, L, C, r, rfl, _, htS, htW, htR, htL, htC, _⟩ := at_node ht hp
  obtain ⟨AS, cS, AW, cW, AR, cR, AL, cL, AC, cC, rfl, hsS, hsW, hsR, hsL, hsC⟩ := hv
  simp only [wt] at hw ha
  simp only [byF] at hy
  have hlS := len_wt S
  have hlW := len_wt W
  have hlR := len_wt R
  have q1 := fun W2 (hb : Below w.heap.size w W2) => jallSet_any hn htS (by omega) (by omega) hsS (hJ.below hb) (by omega)
  have q2 := fun W2 (hb : Below w.heap.size w W2) => jallWord_any hn htW (by omega) (by omega) hsW (hJ.below hb) (by omega)
  have q3 := fun W2 (hb : Below w.heap.size w W2) => jallRedir_any hn htR (by omega) (by omega) hsR (hJ.below hb) (by omega)
  have q4 := fun W2 (hb : Below w.heap.size w W2) => jallList_any hn htL (by omega) (by omega) hsL (hJ.below hb) (by omega)
  have q5 := fun W2 (hb : Below w.heap.size w W2) => jallCase_any hn htC (by omega) (by omega) hsC (hJ.below hb) (by omega)
  have hfr := fun W2 (hb : Below w.heap.size w W2) => hJ.fr.trans (hb.mono hJ.fr.size)
  generalize hG : decide (0 < a) = G at q1 q2 q3 q4 q5 ⊢
  clear hG
  by_cases h1 : k = 1
  · subst h1
    exact command_gen (FN := 62) (fl := 1792) (qm := mayN 1 b n gv S W R L) (enters_of Tryz.func62 (by kernel_rfl) rfl) hJ rfl (fun W2 hb => maySimple_any (by omega) (by omega) htW hsW (hfr W2 hb) (by omega)) q1 q2 q3 q4 q5 (by
      show _ = ((true && (decide (bits BinOp.andNot .i64 (cfP b n gv S.len W.len R.len L.len C.len) 1792 = 0) && mayN 1 b n gv S W R L)) && (okF S 2 G && (okF W 5 G && (okF R 3 G && (okF L 6 G && okF C 4 G)))))
      rw [Bool.true_and, Bool.and_assoc])
  by_cases h2 : k = 2
  · subst h2
    exact command_gen (FN := 63) (fl := 2080) (qm := mayN 2 b n gv S W R L) (enters_of Tryz.func63 (by kernel_rfl) rfl) hJ rfl (fun W2 hb => mayPipe_any htL hsL (hfr W2 hb)) q1 q2 q3 q4 q5 (by
      show _ = ((true && (decide (bits BinOp.andNot .i64 (cfP b n gv S.len W.len R.len L.len C.len) 2080 = 0) && mayN 2 b n gv S W R L)) && (okF S 2 G && (okF W 5 G && (okF R 3 G && (okF L 6 G && okF C 4 G)))))
      rw [Bool.true_and, Bool.and_assoc])
  by_cases h3 : k = 3
  · subst h3
    exact command_gen (FN := 64) (fl := 2048) (qm := mayN 3 b n gv S W R L) (enters_of Tryz.func64 (by kernel_rfl) rfl) hJ rfl (fun W2 hb => mayPair_any htL hsL (hfr W2 hb)) q1 q2 q3 q4 q5 (by
      show _ = ((true && (decide (bits BinOp.andNot .i64 (cfP b n gv S.len W.len R.len L.len C.len) 2048 = 0) && mayN 3 b n gv S W R L)) && (okF S 2 G && (okF W 5 G && (okF R 3 G && (okF L 6 G && okF C 4 G)))))
      rw [Bool.true_and, Bool.and_assoc])
  by_cases h4 : k = 4
  · subst h4
    exact command_gen (FN := 64) (fl := 2048) (qm := mayN 4 b n gv S W R L) (enters_of Tryz.func64 (by kernel_rfl) rfl) hJ rfl (fun W2 hb => mayPair_any htL hsL (hfr W2 hb)) q1 q2 q3 q4 q5 (by
      show _ = ((true && (decide (bits BinOp.andNot .i64 (cfP b n gv S.len W.len R.len L.len C.len) 2048 = 0) && mayN 4 b n gv S W R L)) && (okF S 2 G && (okF W 5 G && (okF R 3 G && (okF L 6 G && okF C 4 G)))))
      rw [Bool.true_and, Bool.and_assoc])
  by_cases h5 : k = 5
  · subst h5
    exact command_gen (FN := 65) (fl := 2048) (qm := mayN 5 b n gv S W R L) (enters_of Tryz.func65 (by kernel_rfl) rfl) hJ rfl (fun W2 hb => mayBack_any htL hsL (hfr W2 hb)) q1 q2 q3 q4 q5 (by
      show _ = ((true && (decide (bits BinOp.andNot .i64 (cfP b n gv S.len W.len R.len L.len C.len) 2048 = 0) && mayN 5 b n gv S W R L)) && (okF S 2 G && (okF W 5 G && (okF R 3 G && (okF L 6 G && okF C 4 G)))))
      rw [Bool.true_and, Bool.and_assoc])
  by_cases h6 : k = 6
  · subst h6
    exact command_gen (FN := 66) (fl := 3072) (qm := mayN 6 b n gv S W R L) (enters_of Tryz.func66 (by kernel_rfl) rfl) hJ rfl (fun W2 hb => mayGroup_any htL hsL (hfr W2 hb)) q1 q2 q3 q4 q5 (by
      show _ = ((true && (decide (bits BinOp.andNot .i64 (cfP b n gv S.len W.len R.len L.len C.len) 3072 = 0) && mayN 6 b n gv S W R L)) && (okF S 2 G && (okF W 5 G && (okF R 3 G && (okF L 6 G && okF C 4 G)))))
      rw [Bool.true_and, Bool.and_assoc])
  by_cases h7 : k = 7
  · subst h7
    exact command_gen (FN := 66) (fl := 3072) (qm := mayN 7 b n gv S W R L) (enters_of Tryz.func66 (by kernel_rfl) rfl) hJ rfl (fun W2 hb => mayGroup_any htL hsL (hfr W2 hb)) q1 q2 q3 q4 q5 (by
      show _ = ((true && (decide (bits BinOp.andNot .i64 (cfP b n gv S.len W.len R.len L.len C.len) 3072 = 0) && mayN 7 b n gv S W R L)) && (okF S 2 G && (okF W 5 G && (okF R 3 G && (okF L 6 G && okF C 4 G)))))
      rw [Bool.true_and, Bool.and_assoc])
  by_cases h8 : k = 8
  · subst h8
    exact command_gen (FN := 67) (fl := 3072) (qm := mayN 8 b n gv S W R L) (enters_of Tryz.func67 (by kernel_rfl) rfl) hJ rfl (fun W2 hb => mayIf_any htL hsL (hfr W2 hb)) q1 q2 q3 q4 q5 (by
      show _ = ((true && (decide (bits BinOp.andNot .i64 (cfP b n gv S.len W.len R.len L.len C.len) 3072 = 0) && mayN 8 b n gv S W R L)) && (okF S 2 G && (okF W 5 G && (okF R 3 G && (okF L 6 G && okF C 4 G)))))
      rw [Bool.true_and, Bool.and_assoc])
  by_cases h9 : k = 9
  · subst h9
    exact command_gen (FN := 68) (fl := 3072) (qm := mayN 9 b n gv S W R L) (enters_of Tryz.func68 (by kernel_rfl) rfl) hJ rfl (fun W2 hb => mayLoop_any htL hsL (hfr W2 hb)) q1 q2 q3 q4 q5 (by
      show _ = ((true && (decide (bits BinOp.andNot .i64 (cfP b n gv S.len W.len R.len L.len C.len) 3072 = 0) && mayN 9 b n gv S W R L)) && (okF S 2 G && (okF W 5 G && (okF R 3 G && (okF L 6 G && okF C 4 G)))))
      rw [Bool.true_and, Bool.and_assoc])
  by_cases h10 : k = 10
  · subst h10
    exact command_gen (FN := 68) (fl := 3072) (qm := mayN 10 b n gv S W R L) (enters_of Tryz.func68 (by kernel_rfl) rfl) hJ rfl (fun W2 hb => mayLoop_any htL hsL (hfr W2 hb)) q1 q2 q3 q4 q5 (by
      show _ = ((true && (decide (bits BinOp.andNot .i64 (cfP b n gv S.len W.len R.len L.len C.len) 3072 = 0) && mayN 10 b n gv S W R L)) && (okF S 2 G && (okF W 5 G && (okF R 3 G && (okF L 6 G && okF C 4 G)))))
      rw [Bool.true_and, Bool.and_assoc])
  by_cases h11 : k = 11
  · subst h11
    exact command_gen (FN := 69) (fl := 3776) (qm := mayN 11 b n gv S W R L) (enters_of Tryz.func69 (by kernel_rfl) rfl) hJ rfl (fun W2 hb => mayFor_any (by omega) (by omega) htL hsL (hfr W2 hb)) q1 q2 q3 q4 q5 (by
      show _ = ((true && (decide (bits BinOp.andNot .i64 (cfP b n gv S.len W.len R.len L.len C.len) 3776 = 0) && mayN 11 b n gv S W R L)) && (okF S 2 G && (okF W 5 G && (okF R 3 G && (okF L 6 G && okF C 4 G)))))
      rw [Bool.true_and, Bool.and_assoc])
  by_cases h12 : k = 12
  · subst h12
    exact command_gen (FN := 70) (fl := 5632) (qm := mayN 12 b n gv S W R L) (enters_of Tryz.func70 (by kernel_rfl) rfl) hJ rfl (fun W2 hb => maySwitch_any hsW) q1 q2 q3 q4 q5 (by
      show _ = ((true && (decide (bits BinOp.andNot .i64 (cfP b n gv S.len W.len R.len L.len C.len) 5632 = 0) && mayN 12 b n gv S W R L)) && (okF S 2 G && (okF W 5 G && (okF R 3 G && (okF L 6 G && okF C 4 G)))))
      rw [Bool.true_and, Bool.and_assoc])
  by_cases h13 : k = 13
  · subst h13
    exact command_gen (FN := 71) (fl := 2112) (qm := mayN 13 b n gv S W R L) (enters_of Tryz.func71 (by kernel_rfl) rfl) hJ rfl (fun W2 hb => mayFunc_any (by omega) htL hsL (hfr W2 hb)) q1 q2 q3 q4 q5 (by
      show _ = ((true && (decide (bits BinOp.andNot .i64 (cfP b n gv S.len W.len R.len L.len C.len) 2112 = 0) && mayN 13 b n gv S W R L)) && (okF S 2 G && (okF W 5 G && (okF R 3 G && (okF L 6 G && okF C 4 G)))))
      rw [Bool.true_and, Bool.and_assoc])
  have hno : okH (.node k b n gv S W R L C r) 0 G = false := by
    show ((decide (1 ≤ k ∧ k ≤ 13) && _) && _) = false
    rw [show decide (1 ≤ k ∧ k ≤ 13) = false from decide_eq_false (by omega)]; rfl
  rw [hno]
  exact command_none hJ (by simp [look, cmdL, Ne.symm h1, Ne.symm h2, Ne.symm h3, Ne.symm h4, Ne.symm h5, Ne.symm h6, Ne.symm h7, Ne.symm h8, Ne.symm h9, Ne.symm h10, Ne.symm h11, Ne.symm h12, Ne.symm h13])
set_option maxRecDepth 100000 in
set_option maxHeartbeats 4000000 in
theorem jlist_any (hn : JOk n0) (ht : Ty f 0) (hw : wt f ≤ n0) (hy : byF f ≤ 1000000) (hs : Slc w0 A c0 f) (hJ : Jd w0 w jb cm pm a) (ha : a + wt f ≤ 4194304) :
    Calls Tryz.prog 26 #[.pointer (some ⟨jb, 0, none⟩), .slice A f.len c0] w fun e w' => e = .returned (.bool (okF f 0 (decide (0 < a)))) ∧ Below w.heap.size w w' := by
  have hc : Calls Tryz.prog 44 #[.slice A f.len c0, .func (.func 45) #[.pointer (some ⟨jb, 0, none⟩)] #[]] w fun e w' => e = .returned (.bool (okF f 0 (decide (0 < a)))) ∧ Below w.heap.size w w' := by
    refine allq_node (R := fun j => okF (f.drop j) 0 (decide (0 < a))) (q := fun j => okH (f.drop j) 0 (decide (0 < a))) ht hs hJ.fr (fun j hj => ok_row ht (by decide) j hj) (ok_end f 0 _) ?_
    intro j hj W hW v hv
    have hwd := wt_drop j f
    have hyd := by_drop j f
    exact jnode_any hn (ty_drop j ht) (by rw [drop_len]; omega) (by omega) (by omega) (hJ.below hW) (by omega) hv
  have hmf := hmfunc
  generalize okF f 0 (decide (0 < a)) = x at hc ⊢
  generalize f.len = N at hc ⊢
  clear hn ht hw hy hs hJ ha
  go_enter Tryz.func26, Tryz.ntmps26
  go_wp2_with fail
  refine hc.mono ?_
  rintro e w2 ⟨rfl, hb2⟩
  replace hb2 := Lib.hid hb2
  clear hc
  go_wp2
  go_ret
  exact ⟨rfl, hb2.out⟩
theorem jOk : ∀ n0, JOk n0
  | 0 => ⟨fun _ h => absurd h (Nat.not_lt_zero _), fun _ _ h => absurd h (Nat.not_lt_zero _)⟩
  | n0 + 1 => ⟨fun _ hw ht hy _ _ _ _ _ _ _ _ hs hJ ha => jlist_any (jOk n0) ht (Nat.le_of_lt_succ hw) hy hs hJ ha,
      fun _ _ hw ht hy _ _ _ _ _ _ _ _ hs hJ ha => jword_any (jOk n0) ht (Nat.le_of_lt_succ hw) hy hs hJ ha⟩
/-- What Check answers. -/
def checkP (f : F) : Int := if 20 < dpF f then 32 else if okF f 0 false then 0 else 1
set_option maxRecDepth 100000 in
set_option maxHeartbeats 4000000 in
theorem Check_any (ht : Ty f 0) (hs : Slc w A c0 f) (hw : wt f ≤ 4194304) (hy : byF f ≤ 1000000) :
    Calls Tryz.prog 9 #[.slice A f.len c0] w fun e w' => e = .returned (.int .i64 (checkP f)) ∧ Below w.heap.size w w' := by
  have hc1 := measured_any (bd := 21) ht hs hw (by decide)
  have hc2 := fun W => newJudge_any (w := W)
  have hc3 := fun w2 jb cm pm W (hb : Below w.heap.size w w2) (hJ : Jd w2 W jb cm pm 0) => jlist_any (jOk (wt f)) ht (Nat.le_refl _) hy (hs.below hb) hJ (by omega)
  rw [show decide (0 < 0) = false from rfl] at hc3
  obtain ⟨x, hx⟩ : ∃ x, checkP f = x := ⟨_, rfl⟩
  rw [hx]
  unfold checkP at hx
  rw [show ((21 : Nat) : Int) = 21 from rfl] at hc1
  generalize okF f 0 false = u at hc3 hx
  generalize dpF f = d at hc1 hx
  generalize szF f = s at hc1
  generalize f.len = N at hc1 hc3 ⊢
  replace hc2 := Lib.hid hc2
  replace hc3 := Lib.hid hc3
  clear ht hs hw hy
  go_enter Tryz.func9, Tryz.ntmps9
  go_wp2_with fail
  refine hc1.mono ?_
  rintro e w2 ⟨mb, s', rfl, hM, _⟩
  have m1 := hM.blk.cell (i := 1) rfl
  have ml := hM.blk.lt
  have hB2 := hM.fr
  have hn2 := hc2.out w2
  replace hM := Lib.hid hM
  replace hB2 := Lib.hid hB2
  clear hc1 hc2
  by_cases h20 : 20 < d
  · rw [if_pos h20] at hx
    subst hx
    rw [show min d 21 = 21 by omega] at m1
    rw [show ((21 : Nat) : Int) = 21 from rfl] at m1
    clear hn2 hc3
    go_wp2
    refine bodyPost_ret (v := .int .i64 32) (by simp [results, Tryz.results9, go_sem]) rfl ?_
    exact ⟨rfl, hB2.out⟩
  · rw [if_neg h20] at hx
    rw [show min d 21 = d by omega] at m1
    have g20 : ¬ (20 : Int) < (d : Int) := by omega
    go_wp2_with fail
    refine hn2.mono ?_
    rintro e w3 ⟨jb, cm, pm, rfl, hJ⟩
    have hc4 := hc3.out w2 jb cm pm w3 hB2.out hJ
    have hB3 := Lib.hid (hB2.out.trans (hJ.fr.mono hB2.out.size))
    clear hn2 hJ hc3 m1 ml
    go_wp2_with fail
    refine hc4.mono ?_
    rintro e w4 ⟨rfl, hb4⟩
    have hB4 := Lib.hid (hB3.out.trans (hb4.mono hB3.out.size))
    clear hc4 hb4
    cases u
    · obtain rfl : 1 = x := by rw [← hx]; rfl
      clear hx
      go_wp2
      refine bodyPost_ret (v := .int .i64 1) (by simp [results, Tryz.results9, go_sem]) rfl ?_
      exact ⟨rfl, hB4.out⟩
    · obtain rfl : 0 = x := by rw [← hx]; rfl
      clear hx
      go_wp2
      refine bodyPost_ret (v := .int .i64 0) (by simp [results, Tryz.results9, go_sem]) rfl ?_
      exact ⟨rfl, hB4.out⟩
end
end Go.Proofs.YtmchfoedjajbdaaGreat
/-
  The chapter's examples: what is answered of them. Conditions: none.
-/
set_option linter.unusedSimpArgs false
set_option linter.unusedVariables false
namespace Go.Proofs.YtmchfoedjajbdaaGreat
open Go Go.RowKit Go.ChangeMaps

/-- A word of one bare piece. -/
def wdF (s : ByteArray) : F := .piece 1 s 0 false .nil .nil .nil
def exA : F := .node 1 false ⟨#[]⟩ false .nil (.row (wdF ⟨#[101, 99, 104, 111]⟩) (.row (wdF ⟨#[97]⟩) .nil)) .nil .nil .nil .nil
def exB : F := .node 2 false ⟨#[]⟩ false .nil .nil .nil (.row exA .nil) .nil .nil
def exC : F := .node 1 false ⟨#[]⟩ false .nil (.row (wdF ⟨#[105, 102]⟩) .nil) .nil .nil .nil .nil
def exD : F := .node 1 false ⟨#[]⟩ false (.set ⟨#[120]⟩ .nil .nil) (.row (wdF ⟨#[105, 102]⟩) .nil) .nil .nil .nil .nil
theorem ck_a : checkP exA = 0 := by decide +kernel
theorem ck_b : checkP exB = 1 := by decide +kernel
theorem ck_c : checkP exC = 1 := by decide +kernel
theorem ck_d : checkP exD = 0 := by decide +kernel
theorem sz_a : szF exA = 3 ∧ dpF exA = 2 := by decide +kernel
theorem same_ab : sameF exA exB = false := by decide +kernel
theorem par_1 : paramB ⟨#[49, 50]⟩ = true := by decide +kernel
theorem par_2 : paramB ⟨#[48, 49]⟩ = false := by decide +kernel
end Go.Proofs.YtmchfoedjajbdaaGreat
/-
  slices.EqualFunc of each kind of row: what it answers, if the function that is handed in tells whether two things are the same. Conditions: none.
-/
set_option linter.unusedSimpArgs false
set_option linter.unusedVariables false
namespace Go.Proofs.YtmchfoedjajbdaaGreat
open Go Go.RowKit

theorem same_nx {f f' : F} {j : Nat} (h : f.len = f'.len) (hj : j < f.len) : sameF (f.drop j) (f'.drop j) = (sameH (f.drop j) (f'.drop j) && sameF (f.drop (j + 1)) (f'.drop (j + 1))) := by
  rw [same_step (by rw [drop_len]; omega) (by rw [drop_len]; omega), drop_tl, drop_tl]
theorem same_nd {f f' : F} {j : Nat} (h : f.len = f'.len) (hj : j = f.len) : sameF (f.drop j) (f'.drop j) = true := by
  rw [len0 (f := f.drop j) (by rw [drop_len]; omega), len0 (f := f'.drop j) (by rw [drop_len]; omega)]
  rfl
section
variable {w : World} {A A' : Option Addr} {c c' : Nat} {f f' : F}
set_option maxRecDepth 100000 in
set_option maxHeartbeats 4000000 in
theorem eqf_node (ht : Ty f 0) (ht' : Ty f' 0) (h : Slc w A c f) (h' : Slc w A' c' f')
    (hE : ∀ j, j < f.len → ∀ W, Below w.heap.size w W → ∀ v v', ElV W (f.drop j) v → ElV W (f'.drop j) v' → Calls Tryz.prog 33 #[v, v'] W fun e w' => e = .returned (.bool (sameH (f.drop j) (f'.drop j))) ∧ Below W.heap.size W w') :
    Calls Tryz.prog 47 #[.slice A f.len c, .slice A' f'.len c', .func (.func 33) #[] #[]] w fun e w' => e = .returned (.bool (sameF f f')) ∧ Below w.heap.size w w' := by
  obtain ⟨N, hN⟩ : ∃ N, f.len = N := ⟨_, rfl⟩
  obtain ⟨N', hN'⟩ : ∃ N, f'.len = N := ⟨_, rfl⟩
  obtain ⟨X, hX⟩ : ∃ X, sameF f f' = X := ⟨_, rfl⟩
  have hm := h.1
  have hcm := h.2.1
  have hm' := h'.1
  have hcm' := h'.2.1
  have hX0 : Hid (X = sameF (f.drop 0) (f'.drop 0)) := Lib.hid hX.symm
  rw [hN, hN', hX]
  rw [hN] at hm
  rw [hN'] at hm'
  unfold maxLen at hcm hcm'
  have hB0 : Hid (Below w.heap.size w w) := Lib.hid (Below.refl _ _)
  replace h := Lib.hid h
  replace h' := Lib.hid h'
  replace ht := Lib.hid ht
  replace ht' := Lib.hid ht'
  replace hE := Lib.hid hE
  replace hX := Lib.hid hX
  replace hN := Lib.hid hN
  replace hN' := Lib.hid hN'
  by_cases hne : N = N'
  · subst hne
    go_enter Tryz.func47, Tryz.ntmps47
    go_wp2
    go_loopw [17] (fun iv wr => ∃ j : Nat, j ≤ N ∧ iv = .int .i64 (j : Int) ∧ Hid (Below w.heap.size w wr) ∧ Hid (X = sameF (f.drop j) (f'.drop j))) (fun iv _ => N - (intOf iv).toNat)
    case atStart => exact ⟨0, Nat.zero_le _, rfl, hB0, hX0⟩
    case round =>
      clear hB0 hX0
      obtain ⟨j, hj, rfl, hB, hs⟩ := hrel
      by_cases hlt : j < N
      · have hj1 : (0 : Int) ≤ (j : Int) := by omega
        have hj2 : (j : Int) < (N : Int) := by omega
        have hgo := hs.out.trans (same_nx (hN.out.trans hN'.out.symm) (by rw [hN.out]; exact hlt))
        have hEj := hE.out j (by rw [hN.out]; exact hlt)
        obtain ⟨B, o, rfl, hBl, hrw⟩ := h.out.2.2 (by rw [hN.out]; omega)
        obtain ⟨B', o', rfl, hBl', hrw'⟩ := h'.out.2.2 (by rw [hN'.out]; omega)
        have hr' := fun W (hW : Below w.heap.size w W) => el_node ((rw_drop j ht'.out (by rw [hN'.out]; omega) hrw').below hW hBl') (ty_drop j ht'.out) (by rw [drop_len, hN'.out]; omega)
        obtain ⟨k, b, n, g, AS, mS, cS, AW, mW, cW, AR, mR, cR, AL, mL, cL, AC, mC, cC, e0, e1, e2, e3, e4, e5, e6, e7, e8, hv⟩ := el_node ((rw_drop j ht.out (by rw [hN.out]; omega) hrw).below hB.out hBl) (ty_drop j ht.out) (by rw [drop_len, hN.out]; omega)
        have hl : B < wr.heap.size := Nat.lt_of_lt_of_le hBl hB.out.size
        generalize sameH (f.drop j) (f'.drop j) = Q at hgo hEj
        unfold szT at e0 e1 e2 e3 e4 e5 e6 e7 e8 hr'
        replace hgo := Lib.hid hgo
        clear hrw hrw' hs
        have bA : Blk (wr.alloc (.cells #[.int .i64 k, .bool b, .string n, .bool g, .slice AS mS cS, .slice AW mW cW, .slice AR mR cR, .slice AL mL cL, .slice AC mC cC] 43)) wr.heap.size [.int .i64 k, .bool b, .string n, .bool g, .slice AS mS cS, .slice AW mW cW, .slice AR mR cR, .slice AL mL cL, .slice AC mC cC] 43 := Blk.new wr _ _
        have hbA : Below wr.heap.size wr (wr.alloc (.cells #[.int .i64 k, .bool b, .string n, .bool g, .slice AS mS cS, .slice AW mW cW, .slice AR mR cR, .slice AL mL cL, .slice AC mC cC] 43)) := (Below.refl _ wr).alloc (Nat.le_refl _) _
        have hvA := Lib.hid (hv.below hbA)
        have hBA := Lib.hid (hB.out.trans (hbA.mono hB.out.size))
        replace bA := Lib.hid bA
        clear hv hbA hB
        go_upto_region 6 with fail
        clear e0 e1 e2 e3 e4 e5 e6 e7 e8 hl
        generalize (wr.alloc (.cells #[.int .i64 k, .bool b, .string n, .bool g, .slice AS mS cS, .slice AW mW cW, .slice AR mR cR, .slice AL mL cL, .slice AC mC cC] 43)) = wA at bA hvA hBA ⊢
        generalize wr.heap.size = y at bA ⊢
        obtain ⟨k', b', n', g', AS', mS', cS', AW', mW', cW', AR', mR', cR', AL', mL', cL', AC', mC', cC', e0', e1', e2', e3', e4', e5', e6', e7', e8', hv'⟩ := hr' wA hBA.out
        have hl' : B' < wA.heap.size := Nat.lt_of_lt_of_le hBl' hBA.out.size
        have bC : Blk (wA.alloc (.cells #[.int .i64 k', .bool b', .string n', .bool g', .slice AS' mS' cS', .slice AW' mW' cW', .slice AR' mR' cR', .slice AL' mL' cL', .slice AC' mC' cC'] 43)) wA.heap.size [.int .i64 k', .bool b', .string n', .bool g', .slice AS' mS' cS', .slice AW' mW' cW', .slice AR' mR' cR', .slice AL' mL' cL', .slice AC' mC' cC'] 43 := Blk.new wA _ _
        have hbC : Below wA.heap.size wA (wA.alloc (.cells #[.int .i64 k', .bool b', .string n', .bool g', .slice AS' mS' cS', .slice AW' mW' cW', .slice AR' mR' cR', .slice AL' mL' cL', .slice AC' mC' cC'] 43)) := (Below.refl _ wA).alloc (Nat.le_refl _) _
        have hvC := Lib.hid (hvA.out.below hbC)
        have hvC' := Lib.hid (hv'.below hbC)
        have hBC := Lib.hid (hBA.out.trans (hbC.mono hBA.out.size))
        have bA2 : Hid (Blk (wA.alloc (.cells #[.int .i64 k', .bool b', .string n', .bool g', .slice AS' mS' cS', .slice AW' mW' cW', .slice AR' mR' cR', .slice AL' mL' cL', .slice AC' mC' cC'] 43)) y [.int .i64 k, .bool b, .string n, .bool g, .slice AS mS cS, .slice AW mW cW, .slice AR mR cR, .slice AL mL cL, .slice AC mC cC] 43) := Lib.hid ((hbC.block y bA.out.lt).trans bA.out)
        replace bC := Lib.hid bC
        clear hv' hbC hBA hvA bA hr'
        go_upto_region 7 with fail
        clear e0' e1' e2' e3' e4' e5' e6' e7' e8' hl'
        generalize (wA.alloc (.cells #[.int .i64 k', .bool b', .string n', .bool g', .slice AS' mS' cS', .slice AW' mW' cW', .slice AR' mR' cR', .slice AL' mL' cL', .slice AC' mC' cC'] 43)) = wC at bC hvC hvC' hBC bA2 ⊢
        generalize wA.heap.size = z at bC ⊢
        have y0 := bA2.out.cell (i := 0) rfl
        have y1 := bA2.out.cell (i := 1) rfl
        have y2 := bA2.out.cell (i := 2) rfl
        have y3 := bA2.out.cell (i := 3) rfl
        have y4 := bA2.out.cell (i := 4) rfl
        have y5 := bA2.out.cell (i := 5) rfl
        have y6 := bA2.out.cell (i := 6) rfl
        have y7 := bA2.out.cell (i := 7) rfl
        have y8 := bA2.out.cell (i := 8) rfl
        have z0 := bC.out.cell (i := 0) rfl
        have z1 := bC.out.cell (i := 1) rfl
        have z2 := bC.out.cell (i := 2) rfl
        have z3 := bC.out.cell (i := 3) rfl
        have z4 := bC.out.cell (i := 4) rfl
        have z5 := bC.out.cell (i := 5) rfl
        have z6 := bC.out.cell (i := 6) rfl
        have z7 := bC.out.cell (i := 7) rfl
        have z8 := bC.out.cell (i := 8) rfl
        have yl := bA2.out.lt
        have zl := bC.out.lt
        have hc := hEj wC hBC.out _ _ hvC.out hvC'.out
        clear hEj hBl hBl' bC bA2
        go_wp2_with fail
        refine hc.mono ?_
        rintro e w5 ⟨rfl, hb5⟩
        have hBE : Hid (Below w.heap.size w w5) := Lib.hid (hBC.out.trans (hb5.mono hBC.out.size))
        clear hc hb5 hBC hvC hvC' yl zl y0 z0 y1 z1 y2 z2 y3 z3 y4 z4 y5 z5 y6 z6 y7 z7 y8 z8
        cases Q with
        | true =>
          have hsE : Hid (X = sameF (f.drop (j + 1)) (f'.drop (j + 1))) := Lib.hid (by rw [hgo.out]; rfl)
          clear hgo
          go_wp2
          go_roundw
          case rel => exact ⟨j + 1, by omega, by go_num, hBE, hsE⟩
          case measure => simp [intOf]; omega
        | false =>
          have hsE : X = false := by rw [hgo.out]; rfl
          subst hsE
          clear hgo
          go_wp2
          go_ret
          exact ⟨rfl, hBE.out⟩
      · obtain rfl : j = N := by omega
        have hj3 : ¬ (j : Int) < (j : Int) := by omega
        have hsE : X = true := hs.out.trans (same_nd (hN.out.trans hN'.out.symm) hN.out.symm)
        subst hsE
        clear hs
        go_wp2
        go_ret
        exact ⟨rfl, hB.out⟩
  · have hsE : X = false := hX.out.symm.trans (same_len _ _ (by rw [hN.out, hN'.out]; exact hne))
    subst hsE
    have hn2 : ((N : Int) == (N' : Int)) = false := beq_eq_false_iff_ne.2 (by omega)
    have hn3 : ((N : Int) != (N' : Int)) = true := bne_iff_ne.2 (by omega)
    go_enter Tryz.func47, Tryz.ntmps47
    go_wp2
    go_ret
    exact ⟨rfl, hB0.out⟩
set_option maxRecDepth 100000 in
set_option maxHeartbeats 4000000 in
theorem eqf_piece (ht : Ty f 1) (ht' : Ty f' 1) (h : Slc w A c f) (h' : Slc w A' c' f')
    (hE : ∀ j, j < f.len → ∀ W, Below w.heap.size w W → ∀ v v', ElV W (f.drop j) v → ElV W (f'.drop j) v' → Calls Tryz.prog 36 #[v, v'] W fun e w' => e = .returned (.bool (sameH (f.drop j) (f'.drop j))) ∧ Below W.heap.size W w') :
    Calls Tryz.prog 57 #[.slice A f.len c, .slice A' f'.len c', .func (.func 36) #[] #[]] w fun e w' => e = .returned (.bool (sameF f f')) ∧ Below w.heap.size w w' := by
  obtain ⟨N, hN⟩ : ∃ N, f.len = N := ⟨_, rfl⟩
  obtain ⟨N', hN'⟩ : ∃ N, f'.len = N := ⟨_, rfl⟩
  obtain ⟨X, hX⟩ : ∃ X, sameF f f' = X := ⟨_, rfl⟩
  have hm := h.1
  have hcm := h.2.1
  have hm' := h'.1
  have hcm' := h'.2.1
  have hX0 : Hid (X = sameF (f.drop 0) (f'.drop 0)) := Lib.hid hX.symm
  rw [hN, hN', hX]
  rw [hN] at hm
  rw [hN'] at hm'
  unfold maxLen at hcm hcm'
  have hB0 : Hid (Below w.heap.size w w) := Lib.hid (Below.refl _ _)
  replace h := Lib.hid h
  replace h' := Lib.hid h'
  replace ht := Lib.hid ht
  replace ht' := Lib.hid ht'
  replace hE := Lib.hid hE
  replace hX := Lib.hid hX
  replace hN := Lib.hid hN
  replace hN' := Lib.hid hN'
  by_cases hne : N = N'
  · subst hne
    go_enter Tryz.func57, Tryz.ntmps57
    go_wp2
    go_loopw [17] (fun iv wr => ∃ j : Nat, j ≤ N ∧ iv = .int .i64 (j : Int) ∧ Hid (Below w.heap.size w wr) ∧ Hid (X = sameF (f.drop j) (f'.drop j))) (fun iv _ => N - (intOf iv).toNat)
    case atStart => exact ⟨0, Nat.zero_le _, rfl, hB0, hX0⟩
    case round =>
      clear hB0 hX0
      obtain ⟨j, hj, rfl, hB, hs⟩ := hrel
      by_cases hlt : j < N
      · have hj1 : (0 : Int) ≤ (j : Int) := by omega
        have hj2 : (j : Int) < (N : Int) := by omega
        have hgo := hs.out.trans (same_nx (hN.out.trans hN'.out.symm) (by rw [hN.out]; exact hlt))
        have hEj := hE.out j (by rw [hN.out]; exact hlt)
        obtain ⟨B, o, rfl, hBl, hrw⟩ := h.out.2.2 (by rw [hN.out]; omega)
        obtain ⟨B', o', rfl, hBl', hrw'⟩ := h'.out.2.2 (by rw [hN'.out]; omega)
        have hr' := fun W (hW : Below w.heap.size w W) => el_piece ((rw_drop j ht'.out (by rw [hN'.out]; omega) hrw').below hW hBl') (ty_drop j ht'.out) (by rw [drop_len, hN'.out]; omega)
        obtain ⟨k, t, p, c, AK, mK, cK, AY, mY, cY, e0, e1, e2, e3, e4, e5, hv⟩ := el_piece ((rw_drop j ht.out (by rw [hN.out]; omega) hrw).below hB.out hBl) (ty_drop j ht.out) (by rw [drop_len, hN.out]; omega)
        have hl : B < wr.heap.size := Nat.lt_of_lt_of_le hBl hB.out.size
        generalize sameH (f.drop j) (f'.drop j) = Q at hgo hEj
        unfold szT at e0 e1 e2 e3 e4 e5 hr'
        replace hgo := Lib.hid hgo
        clear hrw hrw' hs
        have bA : Blk (wr.alloc (.cells #[.int .i64 k, .string t, .int .i64 p, .bool c, .slice AK mK cK, .slice AY mY cY] 66)) wr.heap.size [.int .i64 k, .string t, .int .i64 p, .bool c, .slice AK mK cK, .slice AY mY cY] 66 := Blk.new wr _ _
        have hbA : Below wr.heap.size wr (wr.alloc (.cells #[.int .i64 k, .string t, .int .i64 p, .bool c, .slice AK mK cK, .slice AY mY cY] 66)) := (Below.refl _ wr).alloc (Nat.le_refl _) _
        have hvA := Lib.hid (hv.below hbA)
        have hBA := Lib.hid (hB.out.trans (hbA.mono hB.out.size))
        replace bA := Lib.hid bA
        clear hv hbA hB
        go_upto_region 6 with fail
        clear e0 e1 e2 e3 e4 e5 hl
        generalize (wr.alloc (.cells #[.int .i64 k, .string t, .int .i64 p, .bool c, .slice AK mK cK, .slice AY mY cY] 66)) = wA at bA hvA hBA ⊢
        generalize wr.heap.size = y at bA ⊢
        obtain ⟨k', t', p', c', AK', mK', cK', AY', mY', cY', e0', e1', e2', e3', e4', e5', hv'⟩ := hr' wA hBA.out
        have hl' : B' < wA.heap.size := Nat.lt_of_lt_of_le hBl' hBA.out.size
        have bC : Blk (wA.alloc (.cells #[.int .i64 k', .string t', .int .i64 p', .bool c', .slice AK' mK' cK', .slice AY' mY' cY'] 66)) wA.heap.size [.int .i64 k', .string t', .int .i64 p', .bool c', .slice AK' mK' cK', .slice AY' mY' cY'] 66 := Blk.new wA _ _
        have hbC : Below wA.heap.size wA (wA.alloc (.cells #[.int .i64 k', .string t', .int .i64 p', .bool c', .slice AK' mK' cK', .slice AY' mY' cY'] 66)) := (Below.refl _ wA).alloc (Nat.le_refl _) _
        have hvC := Lib.hid (hvA.out.below hbC)
        have hvC' := Lib.hid (hv'.below hbC)
        have hBC := Lib.hid (hBA.out.trans (hbC.mono hBA.out.size))
        have bA2 : Hid (Blk (wA.alloc (.cells #[.int .i64 k', .string t', .int .i64 p', .bool c', .slice AK' mK' cK', .slice AY' mY' cY'] 66)) y [.int .i64 k, .string t, .int .i64 p, .bool c, .slice AK mK cK, .slice AY mY cY] 66) := Lib.hid ((hbC.block y bA.out.lt).trans bA.out)
        replace bC := Lib.hid bC
        clear hv' hbC hBA hvA bA hr'
        go_upto_region 7 with fail
        clear e0' e1' e2' e3' e4' e5' hl'
        generalize (wA.alloc (.cells #[.int .i64 k', .string t', .int .i64 p', .bool c', .slice AK' mK' cK', .slice AY' mY' cY'] 66)) = wC at bC hvC hvC' hBC bA2 ⊢
        generalize wA.heap.size = z at bC ⊢
        have y0 := bA2.out.cell (i := 0) rfl
        have y1 := bA2.out.cell (i := 1) rfl
        have y2 := bA2.out.cell (i := 2) rfl
        have y3 := bA2.out.cell (i := 3) rfl
        have y4 := bA2.out.cell (i := 4) rfl
        have y5 := bA2.out.cell (i := 5) rfl
        have z0 := bC.out.cell (i := 0) rfl
        have z1 := bC.out.cell (i := 1) rfl
        have z2 := bC.out.cell (i := 2) rfl
        have z3 := bC.out.cell (i := 3) rfl
        have z4 := bC.out.cell (i := 4) rfl
        have z5 := bC.out.cell (i := 5) rfl
        have yl := bA2.out.lt
        have zl := bC.out.lt
        have hc := hEj wC hBC.out _ _ hvC.out hvC'.out
        clear hEj hBl hBl' bC bA2
        go_wp2_with fail
        refine hc.mono ?_
        rintro e w5 ⟨rfl, hb5⟩
        have hBE : Hid (Below w.heap.size w w5) := Lib.hid (hBC.out.trans (hb5.mono hBC.out.size))
        clear hc hb5 hBC hvC hvC' yl zl y0 z0 y1 z1 y2 z2 y3 z3 y4 z4 y5 z5
        cases Q with
        | true =>
          have hsE : Hid (X = sameF (f.drop (j + 1)) (f'.drop (j + 1))) := Lib.hid (by rw [hgo.out]; rfl)
          clear hgo
          go_wp2
          go_roundw
          case rel => exact ⟨j + 1, by omega, by go_num, hBE, hsE⟩
          case measure => simp [intOf]; omega
        | false =>
          have hsE : X = false := by rw [hgo.out]; rfl
          subst hsE
          clear hgo
          go_wp2
          go_ret
          exact ⟨rfl, hBE.out⟩
      · obtain rfl : j = N := by omega
        have hj3 : ¬ (j : Int) < (j : Int) := by omega
        have hsE : X = true := hs.out.trans (same_nd (hN.out.trans hN'.out.symm) hN.out.symm)
        subst hsE
        clear hs
        go_wp2
        go_ret
        exact ⟨rfl, hB.out⟩
  · have hsE : X = false := hX.out.symm.trans (same_len _ _ (by rw [hN.out, hN'.out]; exact hne))
    subst hsE
    have hn2 : ((N : Int) == (N' : Int)) = false := beq_eq_false_iff_ne.2 (by omega)
    have hn3 : ((N : Int) != (N' : Int)) = true := bne_iff_ne.2 (by omega)
    go_enter Tryz.func57, Tryz.ntmps57
    go_wp2
    go_ret
    exact ⟨rfl, hB0.out⟩
set_option maxRecDepth 100000 in
set_option maxHeartbeats 4000000 in
theorem eqf_set (ht : Ty f 2) (ht' : Ty f' 2) (h : Slc w A c f) (h' : Slc w A' c' f')
    (hE : ∀ j, j < f.len → ∀ W, Below w.heap.size w W → ∀ v v', ElV W (f.drop j) v → ElV W (f'.drop j) v' → Calls Tryz.prog 49 #[v, v'] W fun e w' => e = .returned (.bool (sameH (f.drop j) (f'.drop j))) ∧ Below W.heap.size W w') :
    Calls Tryz.prog 96 #[.slice A f.len c, .slice A' f'.len c', .func (.func 49) #[] #[]] w fun e w' => e = .returned (.bool (sameF f f')) ∧ Below w.heap.size w w' := by
  obtain ⟨N, hN⟩ : ∃ N, f.len = N := ⟨_, rfl⟩
  obtain ⟨N', hN'⟩ : ∃ N, f'.len = N := ⟨_, rfl⟩
  obtain ⟨X, hX⟩ : ∃ X, sameF f f' = X := ⟨_, rfl⟩
  have hm := h.1
  have hcm := h.2.1
  have hm' := h'.1
  have hcm' := h'.2.1
  have hX0 : Hid (X = sameF (f.drop 0) (f'.drop 0)) := Lib.hid hX.symm
  rw [hN, hN', hX]
  rw [hN] at hm
  rw [hN'] at hm'
  unfold maxLen at hcm hcm'
  have hB0 : Hid (Below w.heap.size w w) := Lib.hid (Below.refl _ _)
  replace h := Lib.hid h
  replace h' := Lib.hid h'
  replace ht := Lib.hid ht
  replace ht' := Lib.hid ht'
  replace hE := Lib.hid hE
  replace hX := Lib.hid hX
  replace hN := Lib.hid hN
  replace hN' := Lib.hid hN'
  by_cases hne : N = N'
  · subst hne
    go_enter Tryz.func96, Tryz.ntmps96
    go_wp2
    go_loopw [17] (fun iv wr => ∃ j : Nat, j ≤ N ∧ iv = .int .i64 (j : Int) ∧ Hid (Below w.heap.size w wr) ∧ Hid (X = sameF (f.drop j) (f'.drop j))) (fun iv _ => N - (intOf iv).toNat)
    case atStart => exact ⟨0, Nat.zero_le _, rfl, hB0, hX0⟩
    case round =>
      clear hB0 hX0
      obtain ⟨j, hj, rfl, hB, hs⟩ := hrel
      by_cases hlt : j < N
      · have hj1 : (0 : Int) ≤ (j : Int) := by omega
        have hj2 : (j : Int) < (N : Int) := by omega
        have hgo := hs.out.trans (same_nx (hN.out.trans hN'.out.symm) (by rw [hN.out]; exact hlt))
        have hEj := hE.out j (by rw [hN.out]; exact hlt)
        obtain ⟨B, o, rfl, hBl, hrw⟩ := h.out.2.2 (by rw [hN.out]; omega)
        obtain ⟨B', o', rfl, hBl', hrw'⟩ := h'.out.2.2 (by rw [hN'.out]; omega)
        have hr' := fun W (hW : Below w.heap.size w W) => el_set ((rw_drop j ht'.out (by rw [hN'.out]; omega) hrw').below hW hBl') (ty_drop j ht'.out) (by rw [drop_len, hN'.out]; omega)
        obtain ⟨n, Ax, mx, cx, e0, e1, hv⟩ := el_set ((rw_drop j ht.out (by rw [hN.out]; omega) hrw).below hB.out hBl) (ty_drop j ht.out) (by rw [drop_len, hN.out]; omega)
        have hl : B < wr.heap.size := Nat.lt_of_lt_of_le hBl hB.out.size
        generalize sameH (f.drop j) (f'.drop j) = Q at hgo hEj
        unfold szT at e0 e1 hr'
        replace hgo := Lib.hid hgo
        clear hrw hrw' hs
        have bA : Blk (wr.alloc (.cells #[.string n, .slice Ax mx cx] 50)) wr.heap.size [.string n, .slice Ax mx cx] 50 := Blk.new wr _ _
        have hbA : Below wr.heap.size wr (wr.alloc (.cells #[.string n, .slice Ax mx cx] 50)) := (Below.refl _ wr).alloc (Nat.le_refl _) _
        have hvA := Lib.hid (hv.below hbA)
        have hBA := Lib.hid (hB.out.trans (hbA.mono hB.out.size))
        replace bA := Lib.hid bA
        clear hv hbA hB
        go_upto_region 6 with fail
        clear e0 e1 hl
        generalize (wr.alloc (.cells #[.string n, .slice Ax mx cx] 50)) = wA at bA hvA hBA ⊢
        generalize wr.heap.size = y at bA ⊢
        obtain ⟨n', Ax', mx', cx', e0', e1', hv'⟩ := hr' wA hBA.out
        have hl' : B' < wA.heap.size := Nat.lt_of_lt_of_le hBl' hBA.out.size
        have bC : Blk (wA.alloc (.cells #[.string n', .slice Ax' mx' cx'] 50)) wA.heap.size [.string n', .slice Ax' mx' cx'] 50 := Blk.new wA _ _
        have hbC : Below wA.heap.size wA (wA.alloc (.cells #[.string n', .slice Ax' mx' cx'] 50)) := (Below.refl _ wA).alloc (Nat.le_refl _) _
        have hvC := Lib.hid (hvA.out.below hbC)
        have hvC' := Lib.hid (hv'.below hbC)
        have hBC := Lib.hid (hBA.out.trans (hbC.mono hBA.out.size))
        have bA2 : Hid (Blk (wA.alloc (.cells #[.string n', .slice Ax' mx' cx'] 50)) y [.string n, .slice Ax mx cx] 50) := Lib.hid ((hbC.block y bA.out.lt).trans bA.out)
        replace bC := Lib.hid bC
        clear hv' hbC hBA hvA bA hr'
        go_upto_region 7 with fail
        clear e0' e1' hl'
        generalize (wA.alloc (.cells #[.string n', .slice Ax' mx' cx'] 50)) = wC at bC hvC hvC' hBC bA2 ⊢
        generalize wA.heap.size = z at bC ⊢
        have y0 := bA2.out.cell (i := 0) rfl
        have y1 := bA2.out.cell (i := 1) rfl
        have z0 := bC.out.cell (i := 0) rfl
        have z1 := bC.out.cell (i := 1) rfl
        have yl := bA2.out.lt
        have zl := bC.out.lt
        have hc := hEj wC hBC.out _ _ hvC.out hvC'.out
        clear hEj hBl hBl' bC bA2
        go_wp2_with fail
        refine hc.mono ?_
        rintro e w5 ⟨rfl, hb5⟩
        have hBE : Hid (Below w.heap.size w w5) := Lib.hid (hBC.out.trans (hb5.mono hBC.out.size))
        clear hc hb5 hBC hvC hvC' yl zl y0 z0 y1 z1
        cases Q with
        | true =>
          have hsE : Hid (X = sameF (f.drop (j + 1)) (f'.drop (j + 1))) := Lib.hid (by rw [hgo.out]; rfl)
          clear hgo
          go_wp2
          go_roundw
          case rel => exact ⟨j + 1, by omega, by go_num, hBE, hsE⟩
          case measure => simp [intOf]; omega
        | false =>
          have hsE : X = false := by rw [hgo.out]; rfl
          subst hsE
          clear hgo
          go_wp2
          go_ret
          exact ⟨rfl, hBE.out⟩
      · obtain rfl : j = N := by omega
        have hj3 : ¬ (j : Int) < (j : Int) := by omega
        have hsE : X = true := hs.out.trans (same_nd (hN.out.trans hN'.out.symm) hN.out.symm)
        subst hsE
        clear hs
        go_wp2
        go_ret
        exact ⟨rfl, hB.out⟩
  · have hsE : X = false := hX.out.symm.trans (same_len _ _ (by rw [hN.out, hN'.out]; exact hne))
    subst hsE
    have hn2 : ((N : Int) == (N' : Int)) = false := beq_eq_false_iff_ne.2 (by omega)
    have hn3 : ((N : Int) != (N' : Int)) = true := bne_iff_ne.2 (by omega)
    go_enter Tryz.func96, Tryz.ntmps96
    go_wp2
    go_ret
    exact ⟨rfl, hB0.out⟩
set_option maxRecDepth 100000 in
set_option maxHeartbeats 4000000 in
theorem eqf_redir (ht : Ty f 3) (ht' : Ty f' 3) (h : Slc w A c f) (h' : Slc w A' c' f')
    (hE : ∀ j, j < f.len → ∀ W, Below w.heap.size w W → ∀ v v', ElV W (f.drop j) v → ElV W (f'.drop j) v' → Calls Tryz.prog 52 #[v, v'] W fun e w' => e = .returned (.bool (sameH (f.drop j) (f'.drop j))) ∧ Below W.heap.size W w') :
    Calls Tryz.prog 98 #[.slice A f.len c, .slice A' f'.len c', .func (.func 52) #[] #[]] w fun e w' => e = .returned (.bool (sameF f f')) ∧ Below w.heap.size w w' := by
  obtain ⟨N, hN⟩ : ∃ N, f.len = N := ⟨_, rfl⟩
  obtain ⟨N', hN'⟩ : ∃ N, f'.len = N := ⟨_, rfl⟩
  obtain ⟨X, hX⟩ : ∃ X, sameF f f' = X := ⟨_, rfl⟩
  have hm := h.1
  have hcm := h.2.1
  have hm' := h'.1
  have hcm' := h'.2.1
  have hX0 : Hid (X = sameF (f.drop 0) (f'.drop 0)) := Lib.hid hX.symm
  rw [hN, hN', hX]
  rw [hN] at hm
  rw [hN'] at hm'
  unfold maxLen at hcm hcm'
  have hB0 : Hid (Below w.heap.size w w) := Lib.hid (Below.refl _ _)
  replace h := Lib.hid h
  replace h' := Lib.hid h'
  replace ht := Lib.hid ht
  replace ht' := Lib.hid ht'
  replace hE := Lib.hid hE
  replace hX := Lib.hid hX
  replace hN := Lib.hid hN
  replace hN' := Lib.hid hN'
  by_cases hne : N = N'
  · subst hne
    go_enter Tryz.func98, Tryz.ntmps98
    go_wp2
    go_loopw [17] (fun iv wr => ∃ j : Nat, j ≤ N ∧ iv = .int .i64 (j : Int) ∧ Hid (Below w.heap.size w wr) ∧ Hid (X = sameF (f.drop j) (f'.drop j))) (fun iv _ => N - (intOf iv).toNat)
    case atStart => exact ⟨0, Nat.zero_le _, rfl, hB0, hX0⟩
    case round =>
      clear hB0 hX0
      obtain ⟨j, hj, rfl, hB, hs⟩ := hrel
      by_cases hlt : j < N
      · have hj1 : (0 : Int) ≤ (j : Int) := by omega
        have hj2 : (j : Int) < (N : Int) := by omega
        have hgo := hs.out.trans (same_nx (hN.out.trans hN'.out.symm) (by rw [hN.out]; exact hlt))
        have hEj := hE.out j (by rw [hN.out]; exact hlt)
        obtain ⟨B, o, rfl, hBl, hrw⟩ := h.out.2.2 (by rw [hN.out]; omega)
        obtain ⟨B', o', rfl, hBl', hrw'⟩ := h'.out.2.2 (by rw [hN'.out]; omega)
        have hr' := fun W (hW : Below w.heap.size w W) => el_redir ((rw_drop j ht'.out (by rw [hN'.out]; omega) hrw').below hW hBl') (ty_drop j ht'.out) (by rw [drop_len, hN'.out]; omega)
        obtain ⟨d, k, Ax, mx, cx, e0, e1, e2, hv⟩ := el_redir ((rw_drop j ht.out (by rw [hN.out]; omega) hrw).below hB.out hBl) (ty_drop j ht.out) (by rw [drop_len, hN.out]; omega)
        have hl : B < wr.heap.size := Nat.lt_of_lt_of_le hBl hB.out.size
        generalize sameH (f.drop j) (f'.drop j) = Q at hgo hEj
        unfold szT at e0 e1 e2 hr'
        replace hgo := Lib.hid hgo
        clear hrw hrw' hs
        have bA : Blk (wr.alloc (.cells #[.int .i64 d, .int .i64 k, .slice Ax mx cx] 69)) wr.heap.size [.int .i64 d, .int .i64 k, .slice Ax mx cx] 69 := Blk.new wr _ _
        have hbA : Below wr.heap.size wr (wr.alloc (.cells #[.int .i64 d, .int .i64 k, .slice Ax mx cx] 69)) := (Below.refl _ wr).alloc (Nat.le_refl _) _
        have hvA := Lib.hid (hv.below hbA)
        have hBA := Lib.hid (hB.out.trans (hbA.mono hB.out.size))
        replace bA := Lib.hid bA
        clear hv hbA hB
        go_upto_region 6 with fail
        clear e0 e1 e2 hl
        generalize (wr.alloc (.cells #[.int .i64 d, .int .i64 k, .slice Ax mx cx] 69)) = wA at bA hvA hBA ⊢
        generalize wr.heap.size = y at bA ⊢
        obtain ⟨d', k', Ax', mx', cx', e0', e1', e2', hv'⟩ := hr' wA hBA.out
        have hl' : B' < wA.heap.size := Nat.lt_of_lt_of_le hBl' hBA.out.size
        have bC : Blk (wA.alloc (.cells #[.int .i64 d', .int .i64 k', .slice Ax' mx' cx'] 69)) wA.heap.size [.int .i64 d', .int .i64 k', .slice Ax' mx' cx'] 69 := Blk.new wA _ _
        have hbC : Below wA.heap.size wA (wA.alloc (.cells #[.int .i64 d', .int .i64 k', .slice Ax' mx' cx'] 69)) := (Below.refl _ wA).alloc (Nat.le_refl _) _
        have hvC := Lib.hid (hvA.out.below hbC)
        have hvC' := Lib.hid (hv'.below hbC)
        have hBC := Lib.hid (hBA.out.trans (hbC.mono hBA.out.size))
        have bA2 : Hid (Blk (wA.alloc (.cells #[.int .i64 d', .int .i64 k', .slice Ax' mx' cx'] 69)) y [.int .i64 d, .int .i64 k, .slice Ax mx cx] 69) := Lib.hid ((hbC.block y bA.out.lt).trans bA.out)
        replace bC := Lib.hid bC
        clear hv' hbC hBA hvA bA hr'
        go_upto_region 7 with fail
        clear e0' e1' e2' hl'
        generalize (wA.alloc (.cells #[.int .i64 d', .int .i64 k', .slice Ax' mx' cx'] 69)) = wC at bC hvC hvC' hBC bA2 ⊢
        generalize wA.heap.size = z at bC ⊢
        have y0 := bA2.out.cell (i := 0) rfl
        have y1 := bA2.out.cell (i := 1) rfl
        have y2 := bA2.out.cell (i := 2) rfl
        have z0 := bC.out.cell (i := 0) rfl
        have z1 := bC.out.cell (i := 1) rfl
        have z2 := bC.out.cell (i := 2) rfl
        have yl := bA2.out.lt
        have zl := bC.out.lt
        have hc := hEj wC hBC.out _ _ hvC.out hvC'.out
        clear hEj hBl hBl' bC bA2
        go_wp2_with fail
        refine hc.mono ?_
        rintro e w5 ⟨rfl, hb5⟩
        have hBE : Hid (Below w.heap.size w w5) := Lib.hid (hBC.out.trans (hb5.mono hBC.out.size))
        clear hc hb5 hBC hvC hvC' yl zl y0 z0 y1 z1 y2 z2
        cases Q with
        | true =>
          have hsE : Hid (X = sameF (f.drop (j + 1)) (f'.drop (j + 1))) := Lib.hid (by rw [hgo.out]; rfl)
          clear hgo
          go_wp2
          go_roundw
          case rel => exact ⟨j + 1, by omega, by go_num, hBE, hsE⟩
          case measure => simp [intOf]; omega
        | false =>
          have hsE : X = false := by rw [hgo.out]; rfl
          subst hsE
          clear hgo
          go_wp2
          go_ret
          exact ⟨rfl, hBE.out⟩
      · obtain rfl : j = N := by omega
        have hj3 : ¬ (j : Int) < (j : Int) := by omega
        have hsE : X = true := hs.out.trans (same_nd (hN.out.trans hN'.out.symm) hN.out.symm)
        subst hsE
        clear hs
        go_wp2
        go_ret
        exact ⟨rfl, hB.out⟩
  · have hsE : X = false := hX.out.symm.trans (same_len _ _ (by rw [hN.out, hN'.out]; exact hne))
    subst hsE
    have hn2 : ((N : Int) == (N' : Int)) = false := beq_eq_false_iff_ne.2 (by omega)
    have hn3 : ((N : Int) != (N' : Int)) = true := bne_iff_ne.2 (by omega)
    go_enter Tryz.func98, Tryz.ntmps98
    go_wp2
    go_ret
    exact ⟨rfl, hB0.out⟩
set_option maxRecDepth 100000 in
set_option maxHeartbeats 4000000 in
theorem eqf_case (ht : Ty f 4) (ht' : Ty f' 4) (h : Slc w A c f) (h' : Slc w A' c' f')
    (hE : ∀ j, j < f.len → ∀ W, Below w.heap.size w W → ∀ v v', ElV W (f.drop j) v → ElV W (f'.drop j) v' → Calls Tryz.prog 55 #[v, v'] W fun e w' => e = .returned (.bool (sameH (f.drop j) (f'.drop j))) ∧ Below W.heap.size W w') :
    Calls Tryz.prog 100 #[.slice A f.len c, .slice A' f'.len c', .func (.func 55) #[] #[]] w fun e w' => e = .returned (.bool (sameF f f')) ∧ Below w.heap.size w w' := by
  obtain ⟨N, hN⟩ : ∃ N, f.len = N := ⟨_, rfl⟩
  obtain ⟨N', hN'⟩ : ∃ N, f'.len = N := ⟨_, rfl⟩
  obtain ⟨X, hX⟩ : ∃ X, sameF f f' = X := ⟨_, rfl⟩
  have hm := h.1
  have hcm := h.2.1
  have hm' := h'.1
  have hcm' := h'.2.1
  have hX0 : Hid (X = sameF (f.drop 0) (f'.drop 0)) := Lib.hid hX.symm
  rw [hN, hN', hX]
  rw [hN] at hm
  rw [hN'] at hm'
  unfold maxLen at hcm hcm'
  have hB0 : Hid (Below w.heap.size w w) := Lib.hid (Below.refl _ _)
  replace h := Lib.hid h
  replace h' := Lib.hid h'
  replace ht := Lib.hid ht
  replace ht' := Lib.hid ht'
  replace hE := Lib.hid hE
  replace hX := Lib.hid hX
  replace hN := Lib.hid hN
  replace hN' := Lib.hid hN'
  by_cases hne : N = N'
  · subst hne
    go_enter Tryz.func100, Tryz.ntmps100
    go_wp2
    go_loopw [17] (fun iv wr => ∃ j : Nat, j ≤ N ∧ iv = .int .i64 (j : Int) ∧ Hid (Below w.heap.size w wr) ∧ Hid (X = sameF (f.drop j) (f'.drop j))) (fun iv _ => N - (intOf iv).toNat)
    case atStart => exact ⟨0, Nat.zero_le _, rfl, hB0, hX0⟩
    case round =>
      clear hB0 hX0
      obtain ⟨j, hj, rfl, hB, hs⟩ := hrel
      by_cases hlt : j < N
      · have hj1 : (0 : Int) ≤ (j : Int) := by omega
        have hj2 : (j : Int) < (N : Int) := by omega
        have hgo := hs.out.trans (same_nx (hN.out.trans hN'.out.symm) (by rw [hN.out]; exact hlt))
        have hEj := hE.out j (by rw [hN.out]; exact hlt)
        obtain ⟨B, o, rfl, hBl, hrw⟩ := h.out.2.2 (by rw [hN.out]; omega)
        obtain ⟨B', o', rfl, hBl', hrw'⟩ := h'.out.2.2 (by rw [hN'.out]; omega)
        have hr' := fun W (hW : Below w.heap.size w W) => el_case ((rw_drop j ht'.out (by rw [hN'.out]; omega) hrw').below hW hBl') (ty_drop j ht'.out) (by rw [drop_len, hN'.out]; omega)
        obtain ⟨AW, mW, cW, AY, mY, cY, e0, e1, hv⟩ := el_case ((rw_drop j ht.out (by rw [hN.out]; omega) hrw).below hB.out hBl) (ty_drop j ht.out) (by rw [drop_len, hN.out]; omega)
        have hl : B < wr.heap.size := Nat.lt_of_lt_of_le hBl hB.out.size
        generalize sameH (f.drop j) (f'.drop j) = Q at hgo hEj
        unfold szT at e0 e1 hr'
        replace hgo := Lib.hid hgo
        clear hrw hrw' hs
        have bA : Blk (wr.alloc (.cells #[.slice AW mW cW, .slice AY mY cY] 45)) wr.heap.size [.slice AW mW cW, .slice AY mY cY] 45 := Blk.new wr _ _
        have hbA : Below wr.heap.size wr (wr.alloc (.cells #[.slice AW mW cW, .slice AY mY cY] 45)) := (Below.refl _ wr).alloc (Nat.le_refl _) _
        have hvA := Lib.hid (hv.below hbA)
        have hBA := Lib.hid (hB.out.trans (hbA.mono hB.out.size))
        replace bA := Lib.hid bA
        clear hv hbA hB
        go_upto_region 6 with fail
        clear e0 e1 hl
        generalize (wr.alloc (.cells #[.slice AW mW cW, .slice AY mY cY] 45)) = wA at bA hvA hBA ⊢
        generalize wr.heap.size = y at bA ⊢
        obtain ⟨AW', mW', cW', AY', mY', cY', e0', e1', hv'⟩ := hr' wA hBA.out
        have hl' : B' < wA.heap.size := Nat.lt_of_lt_of_le hBl' hBA.out.size
        have bC : Blk (wA.alloc (.cells #[.slice AW' mW' cW', .slice AY' mY' cY'] 45)) wA.heap.size [.slice AW' mW' cW', .slice AY' mY' cY'] 45 := Blk.new wA _ _
        have hbC : Below wA.heap.size wA (wA.alloc (.cells #[.slice AW' mW' cW', .slice AY' mY' cY'] 45)) := (Below.refl _ wA).alloc (Nat.le_refl _) _
        have hvC := Lib.hid (hvA.out.below hbC)
        have hvC' := Lib.hid (hv'.below hbC)
        have hBC := Lib.hid (hBA.out.trans (hbC.mono hBA.out.size))
        have bA2 : Hid (Blk (wA.alloc (.cells #[.slice AW' mW' cW', .slice AY' mY' cY'] 45)) y [.slice AW mW cW, .slice AY mY cY] 45) := Lib.hid ((hbC.block y bA.out.lt).trans bA.out)
        replace bC := Lib.hid bC
        clear hv' hbC hBA hvA bA hr'
        go_upto_region 7 with fail
        clear e0' e1' hl'
        generalize (wA.alloc (.cells #[.slice AW' mW' cW', .slice AY' mY' cY'] 45)) = wC at bC hvC hvC' hBC bA2 ⊢
        generalize wA.heap.size = z at bC ⊢
        have y0 := bA2.out.cell (i := 0) rfl
        have y1 := bA2.out.cell (i := 1) rfl
        have z0 := bC.out.cell (i := 0) rfl
        have z1 := bC.out.cell (i := 1) rfl
        have yl := bA2.out.lt
        have zl := bC.out.lt
        have hc := hEj wC hBC.out _ _ hvC.out hvC'.out
        clear hEj hBl hBl' bC bA2
        go_wp2_with fail
        refine hc.mono ?_
        rintro e w5 ⟨rfl, hb5⟩
        have hBE : Hid (Below w.heap.size w w5) := Lib.hid (hBC.out.trans (hb5.mono hBC.out.size))
        clear hc hb5 hBC hvC hvC' yl zl y0 z0 y1 z1
        cases Q with
        | true =>
          have hsE : Hid (X = sameF (f.drop (j + 1)) (f'.drop (j + 1))) := Lib.hid (by rw [hgo.out]; rfl)
          clear hgo
          go_wp2
          go_roundw
          case rel => exact ⟨j + 1, by omega, by go_num, hBE, hsE⟩
          case measure => simp [intOf]; omega
        | false =>
          have hsE : X = false := by rw [hgo.out]; rfl
          subst hsE
          clear hgo
          go_wp2
          go_ret
          exact ⟨rfl, hBE.out⟩
      · obtain rfl : j = N := by omega
        have hj3 : ¬ (j : Int) < (j : Int) := by omega
        have hsE : X = true := hs.out.trans (same_nd (hN.out.trans hN'.out.symm) hN.out.symm)
        subst hsE
        clear hs
        go_wp2
        go_ret
        exact ⟨rfl, hB.out⟩
  · have hsE : X = false := hX.out.symm.trans (same_len _ _ (by rw [hN.out, hN'.out]; exact hne))
    subst hsE
    have hn2 : ((N : Int) == (N' : Int)) = false := beq_eq_false_iff_ne.2 (by omega)
    have hn3 : ((N : Int) != (N' : Int)) = true := bne_iff_ne.2 (by omega)
    go_enter Tryz.func100, Tryz.ntmps100
    go_wp2
    go_ret
    exact ⟨rfl, hB0.out⟩
set_option maxRecDepth 100000 in
set_option maxHeartbeats 4000000 in
theorem eqf_word (ht : Ty f 5) (ht' : Ty f' 5) (h : Slc w A c f) (h' : Slc w A' c' f')
    (hE : ∀ j, j < f.len → ∀ W, Below w.heap.size w W → ∀ v v', ElV W (f.drop j) v → ElV W (f'.drop j) v' → Calls Tryz.prog 18 #[v, v'] W fun e w' => e = .returned (.bool (sameH (f.drop j) (f'.drop j))) ∧ Below W.heap.size W w') :
    Calls Tryz.prog 97 #[.slice A f.len c, .slice A' f'.len c', .func (.func 18) #[] #[]] w fun e w' => e = .returned (.bool (sameF f f')) ∧ Below w.heap.size w w' := by
  obtain ⟨N, hN⟩ : ∃ N, f.len = N := ⟨_, rfl⟩
  obtain ⟨N', hN'⟩ : ∃ N, f'.len = N := ⟨_, rfl⟩
  obtain ⟨X, hX⟩ : ∃ X, sameF f f' = X := ⟨_, rfl⟩
  have hm := h.1
  have hcm := h.2.1
  have hm' := h'.1
  have hcm' := h'.2.1
  have hX0 : Hid (X = sameF (f.drop 0) (f'.drop 0)) := Lib.hid hX.symm
  rw [hN, hN', hX]
  rw [hN] at hm
  rw [hN'] at hm'
  unfold maxLen at hcm hcm'
  have hB0 : Hid (Below w.heap.size w w) := Lib.hid (Below.refl _ _)
  replace h := Lib.hid h
  replace h' := Lib.hid h'
  replace ht := Lib.hid ht
  replace ht' := Lib.hid ht'
  replace hE := Lib.hid hE
  replace hX := Lib.hid hX
  replace hN := Lib.hid hN
  replace hN' := Lib.hid hN'
  by_cases hne : N = N'
  · subst hne
    go_enter Tryz.func97, Tryz.ntmps97
    go_wp2
    go_loopw [17] (fun iv wr => ∃ j : Nat, j ≤ N ∧ iv = .int .i64 (j : Int) ∧ Hid (Below w.heap.size w wr) ∧ Hid (X = sameF (f.drop j) (f'.drop j))) (fun iv _ => N - (intOf iv).toNat)
    case atStart => exact ⟨0, Nat.zero_le _, rfl, hB0, hX0⟩
    case round =>
      clear hB0 hX0
      obtain ⟨j, hj, rfl, hB, hs⟩ := hrel
      by_cases hlt : j < N
      · have hj1 : (0 : Int) ≤ (j : Int) := by omega
        have hj2 : (j : Int) < (N : Int) := by omega
        have hgo := hs.out.trans (same_nx (hN.out.trans hN'.out.symm) (by rw [hN.out]; exact hlt))
        have hEj := hE.out j (by rw [hN.out]; exact hlt)
        obtain ⟨B, o, rfl, hBl, hrw⟩ := h.out.2.2 (by rw [hN.out]; omega)
        obtain ⟨B', o', rfl, hBl', hrw'⟩ := h'.out.2.2 (by rw [hN'.out]; omega)
        have hr' := fun W (hW : Below w.heap.size w W) => el_word ((rw_drop j ht'.out (by rw [hN'.out]; omega) hrw').below hW hBl') (ty_drop j ht'.out) (by rw [drop_len, hN'.out]; omega)
        obtain ⟨Ax, mx, cx, e0, hv⟩ := el_word ((rw_drop j ht.out (by rw [hN.out]; omega) hrw).below hB.out hBl) (ty_drop j ht.out) (by rw [drop_len, hN.out]; omega)
        have hl : B < wr.heap.size := Nat.lt_of_lt_of_le hBl hB.out.size
        generalize sameH (f.drop j) (f'.drop j) = Q at hgo hEj
        rw [show szT 5 = 1 from rfl, Nat.mul_one] at e0
        simp only [show szT 5 = 1 from rfl, Nat.mul_one] at hr'
        replace hgo := Lib.hid hgo
        clear hrw hrw' hs
        obtain ⟨Ax', mx', cx', e0', hv'⟩ := hr' wr hB.out
        have hl' : B' < wr.heap.size := Nat.lt_of_lt_of_le hBl' hB.out.size
        have hc := hEj wr hB.out _ _ hv hv'
        replace hv := Lib.hid hv
        replace hv' := Lib.hid hv'
        clear hr' hEj hBl hBl'
        go_wp2_with fail
        refine hc.mono ?_
        rintro e w5 ⟨rfl, hb5⟩
        have hBE : Hid (Below w.heap.size w w5) := Lib.hid (hB.out.trans (hb5.mono hB.out.size))
        clear hc hb5 hB e0 e0' hl hl'
        cases Q with
        | true =>
          have hsE : Hid (X = sameF (f.drop (j + 1)) (f'.drop (j + 1))) := Lib.hid (by rw [hgo.out]; rfl)
          clear hgo
          go_wp2
          go_roundw
          case rel => exact ⟨j + 1, by omega, by go_num, hBE, hsE⟩
          case measure => simp [intOf]; omega
        | false =>
          have hsE : X = false := by rw [hgo.out]; rfl
          subst hsE
          clear hgo
          go_wp2
          go_ret
          exact ⟨rfl, hBE.out⟩
      · obtain rfl : j = N := by omega
        have hj3 : ¬ (j : Int) < (j : Int) := by omega
        have hsE : X = true := hs.out.trans (same_nd (hN.out.trans hN'.out.symm) hN.out.symm)
        subst hsE
        clear hs
        go_wp2
        go_ret
        exact ⟨rfl, hB.out⟩
  · have hsE : X = false := hX.out.symm.trans (same_len _ _ (by rw [hN.out, hN'.out]; exact hne))
    subst hsE
    have hn2 : ((N : Int) == (N' : Int)) = false := beq_eq_false_iff_ne.2 (by omega)
    have hn3 : ((N : Int) != (N' : Int)) = true := bne_iff_ne.2 (by omega)
    go_enter Tryz.func97, Tryz.ntmps97
    go_wp2
    go_ret
    exact ⟨rfl, hB0.out⟩
set_option maxRecDepth 100000 in
set_option maxHeartbeats 4000000 in
theorem eqf_list (ht : Ty f 6) (ht' : Ty f' 6) (h : Slc w A c f) (h' : Slc w A' c' f')
    (hE : ∀ j, j < f.len → ∀ W, Below w.heap.size w W → ∀ v v', ElV W (f.drop j) v → ElV W (f'.drop j) v' → Calls Tryz.prog 16 #[v, v'] W fun e w' => e = .returned (.bool (sameH (f.drop j) (f'.drop j))) ∧ Below W.heap.size W w') :
    Calls Tryz.prog 99 #[.slice A f.len c, .slice A' f'.len c', .func (.func 16) #[] #[]] w fun e w' => e = .returned (.bool (sameF f f')) ∧ Below w.heap.size w w' := by
  obtain ⟨N, hN⟩ : ∃ N, f.len = N := ⟨_, rfl⟩
  obtain ⟨N', hN'⟩ : ∃ N, f'.len = N := ⟨_, rfl⟩
  obtain ⟨X, hX⟩ : ∃ X, sameF f f' = X := ⟨_, rfl⟩
  have hm := h.1
  have hcm := h.2.1
  have hm' := h'.1
  have hcm' := h'.2.1
  have hX0 : Hid (X = sameF (f.drop 0) (f'.drop 0)) := Lib.hid hX.symm
  rw [hN, hN', hX]
  rw [hN] at hm
  rw [hN'] at hm'
  unfold maxLen at hcm hcm'
  have hB0 : Hid (Below w.heap.size w w) := Lib.hid (Below.refl _ _)
  replace h := Lib.hid h
  replace h' := Lib.hid h'
  replace ht := Lib.hid ht
  replace ht' := Lib.hid ht'
  replace hE := Lib.hid hE
  replace hX := Lib.hid hX
  replace hN := Lib.hid hN
  replace hN' := Lib.hid hN'
  by_cases hne : N = N'
  · subst hne
    go_enter Tryz.func99, Tryz.ntmps99
    go_wp2
    go_loopw [17] (fun iv wr => ∃ j : Nat, j ≤ N ∧ iv = .int .i64 (j : Int) ∧ Hid (Below w.heap.size w wr) ∧ Hid (X = sameF (f.drop j) (f'.drop j))) (fun iv _ => N - (intOf iv).toNat)
    case atStart => exact ⟨0, Nat.zero_le _, rfl, hB0, hX0⟩
    case round =>
      clear hB0 hX0
      obtain ⟨j, hj, rfl, hB, hs⟩ := hrel
      by_cases hlt : j < N
      · have hj1 : (0 : Int) ≤ (j : Int) := by omega
        have hj2 : (j : Int) < (N : Int) := by omega
        have hgo := hs.out.trans (same_nx (hN.out.trans hN'.out.symm) (by rw [hN.out]; exact hlt))
        have hEj := hE.out j (by rw [hN.out]; exact hlt)
        obtain ⟨B, o, rfl, hBl, hrw⟩ := h.out.2.2 (by rw [hN.out]; omega)
        obtain ⟨B', o', rfl, hBl', hrw'⟩ := h'.out.2.2 (by rw [hN'.out]; omega)
        have hr' := fun W (hW : Below w.heap.size w W) => el_list ((rw_drop j ht'.out (by rw [hN'.out]; omega) hrw').below hW hBl') (ty_drop j ht'.out) (by rw [drop_len, hN'.out]; omega)
        obtain ⟨Ax, mx, cx, e0, hv⟩ := el_list ((rw_drop j ht.out (by rw [hN.out]; omega) hrw).below hB.out hBl) (ty_drop j ht.out) (by rw [drop_len, hN.out]; omega)
        have hl : B < wr.heap.size := Nat.lt_of_lt_of_le hBl hB.out.size
        generalize sameH (f.drop j) (f'.drop j) = Q at hgo hEj
        rw [show szT 6 = 1 from rfl, Nat.mul_one] at e0
        simp only [show szT 6 = 1 from rfl, Nat.mul_one] at hr'
        replace hgo := Lib.hid hgo
        clear hrw hrw' hs
        obtain ⟨Ax', mx', cx', e0', hv'⟩ := hr' wr hB.out
        have hl' : B' < wr.heap.size := Nat.lt_of_lt_of_le hBl' hB.out.size
        have hc := hEj wr hB.out _ _ hv hv'
        replace hv := Lib.hid hv
        replace hv' := Lib.hid hv'
        clear hr' hEj hBl hBl'
        go_wp2_with fail
        refine hc.mono ?_
        rintro e w5 ⟨rfl, hb5⟩
        have hBE : Hid (Below w.heap.size w w5) := Lib.hid (hB.out.trans (hb5.mono hB.out.size))
        clear hc hb5 hB e0 e0' hl hl'
        cases Q with
        | true =>
          have hsE : Hid (X = sameF (f.drop (j + 1)) (f'.drop (j + 1))) := Lib.hid (by rw [hgo.out]; rfl)
          clear hgo
          go_wp2
          go_roundw
          case rel => exact ⟨j + 1, by omega, by go_num, hBE, hsE⟩
          case measure => simp [intOf]; omega
        | false =>
          have hsE : X = false := by rw [hgo.out]; rfl
          subst hsE
          clear hgo
          go_wp2
          go_ret
          exact ⟨rfl, hBE.out⟩
      · obtain rfl : j = N := by omega
        have hj3 : ¬ (j : Int) < (j : Int) := by omega
        have hsE : X = true := hs.out.trans (same_nd (hN.out.trans hN'.out.symm) hN.out.symm)
        subst hsE
        clear hs
        go_wp2
        go_ret
        exact ⟨rfl, hB.out⟩
  · have hsE : X = false := hX.out.symm.trans (same_len _ _ (by rw [hN.out, hN'.out]; exact hne))
    subst hsE
    have hn2 : ((N : Int) == (N' : Int)) = false := beq_eq_false_iff_ne.2 (by omega)
    have hn3 : ((N : Int) != (N' : Int)) = true := bne_iff_ne.2 (by omega)
    go_enter Tryz.func99, Tryz.ntmps99
    go_wp2
    go_ret
    exact ⟨rfl, hB0.out⟩
end
end Go.Proofs.YtmchfoedjajbdaaGreat
