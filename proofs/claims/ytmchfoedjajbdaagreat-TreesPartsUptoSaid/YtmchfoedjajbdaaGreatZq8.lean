/-
  trees: a judge's rules of sets, words and redirections. Conditions: not too great.
-/
import Derived.Defers
import Derived.Recover
import Derived.Test.YtmchfoedjajbdaaGreatZq7
set_option linter.unusedSimpArgs false
set_option linter.unusedVariables false
namespace Go.Proofs.YtmchfoedjajbdaaGreat
open Go Go.RowKit Go.ChangeMaps

/-- What a judge answers of rows that are less than so great. -/
def JOk (n0 : Nat) : Prop :=
  (∀ f, wt f < n0 → Ty f 0 → byF f ≤ 1000000 → ∀ w0 A c w jb cm pm a, Slc w0 A c f → Jd w0 w jb cm pm a → a + wt f ≤ 4194304 → Calls Tryz.prog 26 #[.pointer (some ⟨jb, 0, none⟩), .slice A f.len c] w fun e w' => e = .returned (.bool (okF f 0 (decide (0 < a)))) ∧ Below w.heap.size w w') ∧
  (∀ f (m : Int), wt f < n0 → Ty f 1 → byF f ≤ 1000000 → ∀ w0 A c w jb cm pm a, Slc w0 A c f → Jd w0 w jb cm pm a → a + wt f ≤ 4194304 → Calls Tryz.prog 114 #[.pointer (some ⟨jb, 0, none⟩), .slice A f.len c, .int .i64 m] w fun e w' => e = .returned (.bool (okF f m (decide (0 < a)))) ∧ Below w.heap.size w w')
section
variable {n0 : Nat} {w0 w : World} {A : Option Addr} {c0 jb cm pm a : Nat} {f g : F} {v : Value}
set_option maxRecDepth 100000 in
set_option maxHeartbeats 4000000 in
theorem jset_any (hn : JOk n0) (ht : Ty g 2) (hp : 0 < g.len) (hw : wt g ≤ n0) (hy : byF g ≤ 1000000) (hJ : Jd w0 w jb cm pm a) (ha : a + wt g ≤ 4194304) (hv : ElV w0 g v) :
    Calls Tryz.prog 80 #[.pointer (some ⟨jb, 0, none⟩), v] w fun e w' => e = .returned (.bool (okH g 2 (decide (0 < a)))) ∧ Below w.heap.size w w' := by
  obtain ⟨n, x, r, rfl, htx, _⟩ := at_set ht hp
  obtain ⟨Ax, cx, rfl, hsx⟩ := hv
  simp only [wt] at hw ha
  simp only [byF] at hy
  obtain ⟨q, hq⟩ : ∃ q, okH (.set n x r) 2 (decide (0 < a)) = q := ⟨_, rfl⟩
  rw [hq]
  have hq2 : (nameB n && okF x 1 (decide (0 < a))) = q := hq
  have hB1 := fun o => (Below.refl w.heap.size w).alloc (Nat.le_refl _) o
  have hc := fun o => hn.2 x 1 (by omega) htx (by omega) w0 Ax cx (w.alloc o) jb cm pm a hsx (hJ.below (hB1 o)) (by omega)
  have hnm := fun W => Name_any n (by omega) W
  generalize okF x 1 (decide (0 < a)) = u at hc hq2
  generalize x.len = mx at hc ⊢
  generalize nameB n = b at hnm hq2
  replace hc := Lib.hid hc
  replace hnm := Lib.hid hnm
  replace hB1 := Lib.hid hB1
  clear hn ht hp hw hy hJ ha hsx htx hq
  go_enter Tryz.func80, Tryz.ntmps80
  go_upto_region 1 with fail
  have hk1 := Blk.new w [.string n, .slice Ax mx cx] 50
  have hW1 := hB1.out (.cells #[.string n, .slice Ax mx cx] 50)
  have hc1 := hc.out (.cells #[.string n, .slice Ax mx cx] 50)
  generalize w.alloc (.cells #[.string n, .slice Ax mx cx] 50) = w1 at hk1 hW1 hc1 ⊢
  generalize w.heap.size = y at hk1 ⊢
  have y0 := hk1.cell (i := 0) rfl
  have y1 := hk1.cell (i := 1) rfl
  have yl := hk1.lt
  replace hW1 := Lib.hid hW1
  replace hc1 := Lib.hid hc1
  have hn1 := hnm.out w1
  clear hk1 hB1 hc hnm
  go_wp2_with fail
  refine hn1.mono ?_
  rintro e w2 ⟨rfl, hw2⟩
  obtain rfl := hw2.symm
  clear hn1
  cases b
  · obtain rfl : false = q := hq2
    clear hc1
    go_wp2
    go_ret
    exact ⟨rfl, hW1.out⟩
  · obtain rfl : u = q := hq2
    go_wp2_with fail
    refine hc1.out.mono ?_
    rintro e w3 ⟨rfl, hb3⟩
    have hW3 := Lib.hid (hW1.out.trans (hb3.mono hW1.out.size))
    clear hc1 hb3 hW1 y0 y1 yl
    go_wp2
    go_ret
    exact ⟨rfl, hW3.out⟩
set_option maxRecDepth 100000 in
set_option maxHeartbeats 4000000 in
theorem jwhole_any (hn : JOk n0) (ht : Ty f 1) (hw : wt f < n0) (hy : byF f ≤ 1000000) (hs : Slc w0 A c0 f) (hJ : Jd w0 w jb cm pm a) (ha : a + wt f ≤ 4194304) :
    Calls Tryz.prog 82 #[.pointer (some ⟨jb, 0, none⟩), .slice A f.len c0] w fun e w' => e = .returned (.bool (wholeH f && okF f 1 (decide (0 < a)))) ∧ Below w.heap.size w w' := by
  have hc := hn.2 f 1 hw ht hy w0 A c0 w jb cm pm a hs hJ ha
  have hbg := beginning_any ht hs hJ.fr
  have hpf := hasPrefix_any (beginP f) ⟨#[35]⟩ w
  rw [show Lib.hasPrefix (beginP f).data.toList (ByteArray.mk #[35]).data.toList = hashP f from rfl] at hpf
  have hlen := len_wt f
  have hm := hs.1
  have hcm := hs.2.1
  unfold maxLen at hcm
  have hW0 := Lib.hid (Below.refl w.heap.size w)
  obtain ⟨q, hq⟩ : ∃ q, (wholeH f && okF f 1 (decide (0 < a))) = q := ⟨_, rfl⟩
  rw [hq]
  unfold wholeH at hq
  generalize okF f 1 (decide (0 < a)) = u at hc hq
  generalize hashP f = h at hpf hq
  generalize beginP f = t at hbg hpf
  generalize f.len = N at hc hbg hq hm hlen ⊢
  have hN9 : N ≤ 4194304 := by omega
  clear hn ht hw hy hs hJ ha hlen
  by_cases hN : 0 < N
  · have g1 : (0 : Int) < (N : Int) := by omega
    cases h
    · obtain rfl : u = q := by rw [← hq]; simp [hN]
      clear hq
      go_enter Tryz.func82, Tryz.ntmps82
      go_wp2_with fail
      refine hbg.mono ?_
      rintro e w2 ⟨rfl, hw2⟩
      obtain rfl := hw2.symm
      clear hbg
      go_wp2_with fail
      refine hpf.mono ?_
      rintro e w2 ⟨rfl, hw2⟩
      obtain rfl := hw2.symm
      clear hpf
      go_wp2_with fail
      refine hc.mono ?_
      rintro e w3 ⟨rfl, hb3⟩
      replace hb3 := Lib.hid hb3
      clear hc
      go_wp2
      go_ret
      exact ⟨rfl, hb3.out⟩
    · obtain rfl : false = q := by rw [← hq]; simp
      clear hq hc
      go_enter Tryz.func82, Tryz.ntmps82
      go_wp2_with fail
      refine hbg.mono ?_
      rintro e w2 ⟨rfl, hw2⟩
      obtain rfl := hw2.symm
      clear hbg
      go_wp2_with fail
      refine hpf.mono ?_
      rintro e w2 ⟨rfl, hw2⟩
      obtain rfl := hw2.symm
      clear hpf
      go_wp2
      go_ret
      exact ⟨rfl, hW0.out⟩
  · obtain rfl : false = q := by rw [← hq]; simp [hN]
    have g1 : ¬ (0 : Int) < (N : Int) := by omega
    clear hq hc hbg hpf
    go_enter Tryz.func82, Tryz.ntmps82
    go_wp2
    go_ret
    exact ⟨rfl, hW0.out⟩
end
end Go.Proofs.YtmchfoedjajbdaaGreat
/-
  trees: a judge's rule of redirections, and of cases. Conditions: not too great.
-/
set_option linter.unusedSimpArgs false
set_option linter.unusedVariables false
namespace Go.Proofs.YtmchfoedjajbdaaGreat
open Go Go.RowKit Go.ChangeMaps

section
variable {n0 : Nat} {w0 w : World} {A : Option Addr} {c0 jb cm pm a : Nat} {f g : F} {v : Value}
set_option maxRecDepth 100000 in
set_option maxHeartbeats 8000000 in
theorem jredir_any (hn : JOk n0) (ht : Ty g 3) (hp : 0 < g.len) (hw : wt g ≤ n0) (hy : byF g ≤ 1000000) (hJ : Jd w0 w jb cm pm a) (ha : a + wt g ≤ 4194304) (hv : ElV w0 g v) :
    Calls Tryz.prog 84 #[.pointer (some ⟨jb, 0, none⟩), v] w fun e w' => e = .returned (.bool (okH g 3 (decide (0 < a)))) ∧ Below w.heap.size w w' := by
  obtain ⟨d, k, x, r, rfl, _, _, htx, _⟩ := at_redir ht hp
  obtain ⟨Ax, cx, rfl, hsx⟩ := hv
  simp only [wt] at hw ha
  simp only [byF] at hy
  obtain ⟨q, hq⟩ : ∃ q, okH (.redir d k x r) 3 (decide (0 < a)) = q := ⟨_, rfl⟩
  rw [hq]
  have hq2 : ((decide (0 ≤ d ∧ d ≤ 99 ∧ 1 ≤ k ∧ k ≤ 6) && (wholeH x && okF x 1 (decide (0 < a)))) && (decide (k ≠ 6) || (!decide (0 < a) && textP x))) = q := hq
  have hB1 := fun o => (Below.refl w.heap.size w).alloc (Nat.le_refl _) o
  have hc := fun o => jwhole_any hn htx (by omega) (by omega) hsx (hJ.below (hB1 o)) (by omega)
  have hct := fun W (hb : Below w0.heap.size w0 W) => isText_any htx hsx hb (by omega) (by omega)
  have ha9 : (a : Int) ≤ 4194304 := by omega
  generalize (wholeH x && okF x 1 (decide (0 < a))) = u at hc hq2
  generalize textP x = tx at hct hq2
  generalize x.len = mx at hc hct ⊢
  replace hc := Lib.hid hc
  replace hct := Lib.hid hct
  replace hB1 := Lib.hid hB1
  replace hJ := Lib.hid hJ
  clear hn ht hp hw hy ha hsx htx hq
  have hin : 0 ≤ d → d ≤ 99 → 1 ≤ k → k ≤ 6 → (u && (decide (k ≠ 6) || (!decide (0 < a) && tx))) = q := fun a b c e => by rw [← hq2, show decide (0 ≤ d ∧ d ≤ 99 ∧ 1 ≤ k ∧ k ≤ 6) = true from decide_eq_true ⟨a, b, c, e⟩, Bool.true_and]
  have hout : ¬ (0 ≤ d ∧ d ≤ 99 ∧ 1 ≤ k ∧ k ≤ 6) → false = q := fun h => by rw [← hq2, show decide (0 ≤ d ∧ d ≤ 99 ∧ 1 ≤ k ∧ k ≤ 6) = false from decide_eq_false h]; rfl
  clear hq2
  by_cases h1 : d < 0
  · obtain rfl : false = q := hout (by omega)
    clear hin hout
    go_enter Tryz.func84, Tryz.ntmps84
    go_upto_region 1 with fail
    have hk1 := Blk.new w [.int .i64 d, .int .i64 k, .slice Ax mx cx] 69
    have hW1 := hB1.out (.cells #[.int .i64 d, .int .i64 k, .slice Ax mx cx] 69)
    have hc1 := hc.out (.cells #[.int .i64 d, .int .i64 k, .slice Ax mx cx] 69)
    generalize w.alloc (.cells #[.int .i64 d, .int .i64 k, .slice Ax mx cx] 69) = w1 at hk1 hW1 hc1 ⊢
    generalize w.heap.size = y at hk1 ⊢
    have y0 := hk1.cell (i := 0) rfl
    have y1 := hk1.cell (i := 1) rfl
    have y2 := hk1.cell (i := 2) rfl
    have yl := hk1.lt
    replace hW1 := Lib.hid hW1
    clear hk1 hB1 hc hct hJ hc1
    go_wp2
    go_ret
    exact ⟨rfl, hW1.out⟩
  · skip
    by_cases h2 : 99 < d
    · obtain rfl : false = q := hout (by omega)
      clear hin hout
      go_enter Tryz.func84, Tryz.ntmps84
      go_upto_region 1 with fail
      have hk1 := Blk.new w [.int .i64 d, .int .i64 k, .slice Ax mx cx] 69
      have hW1 := hB1.out (.cells #[.int .i64 d, .int .i64 k, .slice Ax mx cx] 69)
      have hc1 := hc.out (.cells #[.int .i64 d, .int .i64 k, .slice Ax mx cx] 69)
      generalize w.alloc (.cells #[.int .i64 d, .int .i64 k, .slice Ax mx cx] 69) = w1 at hk1 hW1 hc1 ⊢
      generalize w.heap.size = y at hk1 ⊢
      have y0 := hk1.cell (i := 0) rfl
      have y1 := hk1.cell (i := 1) rfl
      have y2 := hk1.cell (i := 2) rfl
      have yl := hk1.lt
      replace hW1 := Lib.hid hW1
      clear hk1 hB1 hc hct hJ hc1
      go_wp2
      go_ret
      exact ⟨rfl, hW1.out⟩
    · skip
      by_cases h3 : k < 1
      · obtain rfl : false = q := hout (by omega)
        clear hin hout
        go_enter Tryz.func84, Tryz.ntmps84
        go_upto_region 1 with fail
        have hk1 := Blk.new w [.int .i64 d, .int .i64 k, .slice Ax mx cx] 69
        have hW1 := hB1.out (.cells #[.int .i64 d, .int .i64 k, .slice Ax mx cx] 69)
        have hc1 := hc.out (.cells #[.int .i64 d, .int .i64 k, .slice Ax mx cx] 69)
        generalize w.alloc (.cells #[.int .i64 d, .int .i64 k, .slice Ax mx cx] 69) = w1 at hk1 hW1 hc1 ⊢
        generalize w.heap.size = y at hk1 ⊢
        have y0 := hk1.cell (i := 0) rfl
        have y1 := hk1.cell (i := 1) rfl
        have y2 := hk1.cell (i := 2) rfl
        have yl := hk1.lt
        replace hW1 := Lib.hid hW1
        clear hk1 hB1 hc hct hJ hc1
        go_wp2
        go_ret
        exact ⟨rfl, hW1.out⟩
      · skip
        by_cases h4 : 6 < k
        · obtain rfl : false = q := hout (by omega)
          clear hin hout
          go_enter Tryz.func84, Tryz.ntmps84
          go_upto_region 1 with fail
          have hk1 := Blk.new w [.int .i64 d, .int .i64 k, .slice Ax mx cx] 69
          have hW1 := hB1.out (.cells #[.int .i64 d, .int .i64 k, .slice Ax mx cx] 69)
          have hc1 := hc.out (.cells #[.int .i64 d, .int .i64 k, .slice Ax mx cx] 69)
          generalize w.alloc (.cells #[.int .i64 d, .int .i64 k, .slice Ax mx cx] 69) = w1 at hk1 hW1 hc1 ⊢
          generalize w.heap.size = y at hk1 ⊢
          have y0 := hk1.cell (i := 0) rfl
          have y1 := hk1.cell (i := 1) rfl
          have y2 := hk1.cell (i := 2) rfl
          have yl := hk1.lt
          replace hW1 := Lib.hid hW1
          clear hk1 hB1 hc hct hJ hc1
          go_wp2
          go_ret
          exact ⟨rfl, hW1.out⟩
        · skip
          replace hin := hin (by omega) (by omega) (by omega) (by omega)
          clear hout
          go_enter Tryz.func84, Tryz.ntmps84
          go_upto_region 1 with fail
          have hk1 := Blk.new w [.int .i64 d, .int .i64 k, .slice Ax mx cx] 69
          have hW1 := hB1.out (.cells #[.int .i64 d, .int .i64 k, .slice Ax mx cx] 69)
          have hc1 := hc.out (.cells #[.int .i64 d, .int .i64 k, .slice Ax mx cx] 69)
          generalize w.alloc (.cells #[.int .i64 d, .int .i64 k, .slice Ax mx cx] 69) = w1 at hk1 hW1 hc1 ⊢
          generalize w.heap.size = y at hk1 ⊢
          have y0 := hk1.cell (i := 0) rfl
          have y1 := hk1.cell (i := 1) rfl
          have y2 := hk1.cell (i := 2) rfl
          have yl := hk1.lt
          have hJ1 := Lib.hid (hJ.out.below hW1)
          replace hW1 := Lib.hid hW1
          replace hk1 := Lib.hid hk1
          clear hB1 hc hJ
          go_wp2_with fail
          refine hc1.mono ?_
          rintro e w2 ⟨rfl, hb2⟩
          have hk2 : Blk w2 y _ _ := (hb2.block y yl).trans hk1.out
          have hJ2 := hJ1.out.below hb2
          have hW2 := Lib.hid (hW1.out.trans (hb2.mono hW1.out.size))
          clear hc1 hb2 hW1 y0 y1 y2 yl hk1 hJ1
          have y1 := hk2.cell (i := 1) rfl
          have y2 := hk2.cell (i := 2) rfl
          have yl := hk2.lt
          clear hk2
          cases u
          · obtain rfl : false = q := hin
            clear hct hJ2
            go_wp2
            go_ret
            exact ⟨rfl, hW2.out⟩
          · rw [Bool.true_and] at hin
            by_cases h6 : k = 6
            · subst h6
              have hin2 : (!decide (0 < a) && tx) = q := by rw [← hin]; simp
              have j2 := hJ2.blk.cell (i := 2) rfl
              have jl := hJ2.blk.lt
              have hct2 := hct.out w2 hJ2.fr
              clear hct hJ2 hin
              by_cases h0 : a = 0
              · subst h0
                obtain rfl : tx = q := by rw [← hin2]; simp
                clear hin2
                go_wp2_with fail
                refine hct2.mono ?_
                rintro e w3 ⟨rfl, hb3⟩
                have hW3 := Lib.hid (hW2.out.trans (hb3.mono hW2.out.size))
                clear hct2 hb3 hW2 y1 y2 yl j2 jl
                go_wp2
                go_ret
                exact ⟨rfl, hW3.out⟩
              · obtain rfl : false = q := by rw [← hin2, show decide (0 < a) = true from decide_eq_true (by omega)]; rfl
                have g0 : ((a : Int) == 0) = false := beq_eq_false_iff_ne.2 (by omega)
                clear hin2 hct2
                go_wp2
                go_ret
                exact ⟨rfl, hW2.out⟩
            · obtain rfl : true = q := by rw [← hin]; simp [h6]
              have g6 : (k != 6) = true := by simp [h6]
              clear hin hct hJ2
              go_wp2
              go_ret
              exact ⟨rfl, hW2.out⟩
set_option maxRecDepth 100000 in
set_option maxHeartbeats 4000000 in
theorem jallWord_any (hn : JOk n0) (ht : Ty f 5) (hw : wt f ≤ n0) (hy : byF f ≤ 1000000) (hs : Slc w0 A c0 f) (hJ : Jd w0 w jb cm pm a) (ha : a + wt f ≤ 4194304) :
    Calls Tryz.prog 81 #[.slice A f.len c0, .func (.func 82) #[.pointer (some ⟨jb, 0, none⟩)] #[]] w fun e w' => e = .returned (.bool (okF f 5 (decide (0 < a)))) ∧ Below w.heap.size w w' := by
  refine allq_word (R := fun j => okF (f.drop j) 5 (decide (0 < a))) (q := fun j => okH (f.drop j) 5 (decide (0 < a))) ht hs hJ.fr (fun j hj => ok_row ht (by decide) j hj) (ok_end f 5 _) ?_
  intro j hj W hW v hv
  obtain ⟨x, r, hd, htx, _⟩ := at_word (ty_drop j ht) (by rw [drop_len]; omega)
  have hwd := wt_drop j f
  have hyd := by_drop j f
  rw [hd] at hv hwd hyd ⊢
  obtain ⟨Ax, cx, rfl, hsx⟩ := hv
  simp only [wt] at hwd
  simp only [byF] at hyd
  exact jwhole_any hn htx (by omega) (by omega) hsx (hJ.below hW) (by omega)
set_option maxRecDepth 100000 in
set_option maxHeartbeats 4000000 in
theorem jallSet_any (hn : JOk n0) (ht : Ty f 2) (hw : wt f ≤ n0) (hy : byF f ≤ 1000000) (hs : Slc w0 A c0 f) (hJ : Jd w0 w jb cm pm a) (ha : a + wt f ≤ 4194304) :
    Calls Tryz.prog 79 #[.slice A f.len c0, .func (.func 80) #[.pointer (some ⟨jb, 0, none⟩)] #[]] w fun e w' => e = .returned (.bool (okF f 2 (decide (0 < a)))) ∧ Below w.heap.size w w' := by
  refine allq_set (R := fun j => okF (f.drop j) 2 (decide (0 < a))) (q := fun j => okH (f.drop j) 2 (decide (0 < a))) ht hs hJ.fr (fun j hj => ok_row ht (by decide) j hj) (ok_end f 2 _) ?_
  intro j hj W hW v hv
  have hwd := wt_drop j f
  have hyd := by_drop j f
  exact jset_any hn (ty_drop j ht) (by rw [drop_len]; omega) (by omega) (by omega) (hJ.below hW) (by omega) hv
set_option maxRecDepth 100000 in
set_option maxHeartbeats 4000000 in
theorem jallRedir_any (hn : JOk n0) (ht : Ty f 3) (hw : wt f ≤ n0) (hy : byF f ≤ 1000000) (hs : Slc w0 A c0 f) (hJ : Jd w0 w jb cm pm a) (ha : a + wt f ≤ 4194304) :
    Calls Tryz.prog 83 #[.slice A f.len c0, .func (.func 84) #[.pointer (some ⟨jb, 0, none⟩)] #[]] w fun e w' => e = .returned (.bool (okF f 3 (decide (0 < a)))) ∧ Below w.heap.size w w' := by
  refine allq_redir (R := fun j => okF (f.drop j) 3 (decide (0 < a))) (q := fun j => okH (f.drop j) 3 (decide (0 < a))) ht hs hJ.fr (fun j hj => ok_row ht (by decide) j hj) (ok_end f 3 _) ?_
  intro j hj W hW v hv
  have hwd := wt_drop j f
  have hyd := by_drop j f
  exact jredir_any hn (ty_drop j ht) (by rw [drop_len]; omega) (by omega) (by omega) (hJ.below hW) (by omega) hv
set_option maxRecDepth 100000 in
set_option maxHeartbeats 4000000 in
theorem jallList_any (hn : JOk n0) (ht : Ty f 6) (hw : wt f ≤ n0) (hy : byF f ≤ 1000000) (hs : Slc w0 A c0 f) (hJ : Jd w0 w jb cm pm a) (ha : a + wt f ≤ 4194304) :
    Calls Tryz.prog 85 #[.slice A f.len c0, .func (.func 26) #[.pointer (some ⟨jb, 0, none⟩)] #[]] w fun e w' => e = .returned (.bool (okF f 6 (decide (0 < a)))) ∧ Below w.heap.size w w' := by
  refine allq_list (R := fun j => okF (f.drop j) 6 (decide (0 < a))) (q := fun j => okH (f.drop j) 6 (decide (0 < a))) ht hs hJ.fr (fun j hj => ok_row ht (by decide) j hj) (ok_end f 6 _) ?_
  intro j hj W hW v hv
  obtain ⟨x, r, hd, htx, _⟩ := at_list (ty_drop j ht) (by rw [drop_len]; omega)
  have hwd := wt_drop j f
  have hyd := by_drop j f
  rw [hd] at hv hwd hyd ⊢
  obtain ⟨Ax, cx, rfl, hsx⟩ := hv
  simp only [wt] at hwd
  simp only [byF] at hyd
  exact hn.1 x (by omega) htx (by omega) w0 Ax cx W jb cm pm a hsx (hJ.below hW) (by omega)
end
end Go.Proofs.YtmchfoedjajbdaaGreat
/-
  trees: a judge's rules of cases, of what stands in quotes, of cuts and of Commands. Conditions: not too great.
-/
set_option linter.unusedSimpArgs false
set_option linter.unusedVariables false
namespace Go.Proofs.YtmchfoedjajbdaaGreat
open Go Go.RowKit Go.ChangeMaps

section
variable {n0 : Nat} {w0 w : World} {A : Option Addr} {c0 jb cm pm a : Nat} {f g : F} {v : Value}
theorem hmfunc : ∀ (fn : Fn) (first cap : Array Value) (w : World), (Instr.makeFunc fn first cap).run Tryz.prog w = .ok (.func fn first cap) w := fun _ _ _ _ => rfl
set_option maxRecDepth 100000 in
set_option maxHeartbeats 8000000 in
theorem jcase_any (hn : JOk n0) (ht : Ty g 4) (hp : 0 < g.len) (hw : wt g ≤ n0) (hy : byF g ≤ 1000000) (hJ : Jd w0 w jb cm pm a) (ha : a + wt g ≤ 4194304) (hv : ElV w0 g v) :
    Calls Tryz.prog 87 #[.pointer (some ⟨jb, 0, none⟩), v] w fun e w' => e = .returned (.bool (okH g 4 (decide (0 < a)))) ∧ Below w.heap.size w w' := by
  obtain ⟨X, Y, r, rfl, htX, htY, _⟩ := at_case ht hp
  obtain ⟨AW, cW, AY, cY, rfl, hsX, hsY⟩ := hv
  simp only [wt] at hw ha
  simp only [byF] at hy
  obtain ⟨q, hq⟩ : ∃ q, okH (.case X Y r) 4 (decide (0 < a)) = q := ⟨_, rfl⟩
  rw [hq]
  have hq2 : (decide (0 < X.len) && (okF X 5 (decide (0 < a)) && okF Y 0 (decide (0 < a)))) = q := hq
  have hB1 := fun o => (Below.refl w.heap.size w).alloc (Nat.le_refl _) o
  have hcX := fun W (hb : Below w.heap.size w W) => jallWord_any hn htX (by omega) (by omega) hsX (hJ.below hb) (by omega)
  have hcY := fun W (hb : Below w.heap.size w W) => hn.1 Y (by omega) htY (by omega) w0 AY cY W jb cm pm a hsY (hJ.below hb) (by omega)
  have hlX := len_wt X
  have hmX : X.len ≤ 4194304 := by omega
  have hmf := hmfunc
  generalize okF X 5 (decide (0 < a)) = u at hcX hq2
  generalize okF Y 0 (decide (0 < a)) = u2 at hcY hq2
  generalize X.len = mW at hcX hq2 hmX ⊢
  generalize Y.len = mY at hcY ⊢
  replace hcX := Lib.hid hcX
  replace hcY := Lib.hid hcY
  replace hB1 := Lib.hid hB1
  clear hn ht hp hw hy hJ ha hsX hsY htX htY hq hlX
  go_enter Tryz.func87, Tryz.ntmps87
  go_upto_region 1 with fail
  have hk1 := Blk.new w [.slice AW mW cW, .slice AY mY cY] 45
  have hW1 := hB1.out (.cells #[.slice AW mW cW, .slice AY mY cY] 45)
  generalize w.alloc (.cells #[.slice AW mW cW, .slice AY mY cY] 45) = w1 at hk1 hW1 ⊢
  generalize hyy : w.heap.size = y at hk1 ⊢
  replace hyy := Lib.hid hyy
  have y0 := hk1.cell (i := 0) rfl
  have y1 := hk1.cell (i := 1) rfl
  have yl := hk1.lt
  by_cases h0 : 0 < mW
  · have g1 : (0 : Int) < (mW : Int) := by omega
    have hc1 := hcX.out w1 hW1
    replace hW1 := Lib.hid hW1
    clear hcX
    go_wp2_with fail
    refine hc1.mono ?_
    rintro e w2 ⟨rfl, hb2⟩
    have hk2 : Blk w2 y _ _ := (hb2.block y yl).trans hk1
    have hW2 := hW1.out.trans (hb2.mono hW1.out.size)
    clear hc1 hb2 hW1 y0 y1 yl hk1
    have y1 := hk2.cell (i := 1) rfl
    have yl := hk2.lt
    clear hk2
    cases u
    · obtain rfl : false = q := by rw [← hq2]; simp
      replace hW2 := Lib.hid hW2
      clear hcY hq2
      go_wp2
      go_ret
      exact ⟨rfl, hW2.out⟩
    · obtain rfl : u2 = q := by rw [← hq2]; simp [h0]
      have hc2 := hcY.out w2 hW2
      replace hW2 := Lib.hid hW2
      clear hcY hq2
      go_wp2_with fail
      refine hc2.mono ?_
      rintro e w3 ⟨rfl, hb3⟩
      have hW3 := Lib.hid (hW2.out.trans (hb3.mono hW2.out.size))
      clear hc2 hb3 hW2 y1 yl
      go_wp2
      go_ret
      exact ⟨rfl, hW3.out⟩
  · obtain rfl : false = q := by rw [← hq2]; simp [h0]
    have g1 : ¬ (0 : Int) < (mW : Int) := by omega
    replace hW1 := Lib.hid hW1
    clear hcX hcY hq2 hk1
    go_wp2
    go_ret
    exact ⟨rfl, hW1.out⟩
set_option maxRecDepth 100000 in
set_option maxHeartbeats 4000000 in
theorem jallCase_any (hn : JOk n0) (ht : Ty f 4) (hw : wt f ≤ n0) (hy : byF f ≤ 1000000) (hs : Slc w0 A c0 f) (hJ : Jd w0 w jb cm pm a) (ha : a + wt f ≤ 4194304) :
    Calls Tryz.prog 86 #[.slice A f.len c0, .func (.func 87) #[.pointer (some ⟨jb, 0, none⟩)] #[]] w fun e w' => e = .returned (.bool (okF f 4 (decide (0 < a)))) ∧ Below w.heap.size w w' := by
  refine allq_case (R := fun j => okF (f.drop j) 4 (decide (0 < a))) (q := fun j => okH (f.drop j) 4 (decide (0 < a))) ht hs hJ.fr (fun j hj => ok_row ht (by decide) j hj) (ok_end f 4 _) ?_
  intro j hj W hW v hv
  have hwd := wt_drop j f
  have hyd := by_drop j f
  exact jcase_any hn (ty_drop j ht) (by rw [drop_len]; omega) (by omega) (by omega) (hJ.below hW) (by omega) hv
section
variable {k p m : Int} {t : ByteArray} {c : Bool} {AK AY : Option Addr} {cK cY mK mY : Nat} {K Y : F}
set_option maxRecDepth 100000 in
set_option maxHeartbeats 4000000 in
theorem jdouble_any {q : Bool} (hc : ∀ W, Below w.heap.size w W → Calls Tryz.prog 114 #[.pointer (some ⟨jb, 0, none⟩), .slice AK mK cK, .int .i64 4] W fun e w' => e = .returned (.bool q) ∧ Below W.heap.size W w') :
    Calls Tryz.prog 74 #[.pointer (some ⟨jb, 0, none⟩), pcV k t p c (.slice AK mK cK) (.slice AY mY cY), .int .i64 m] w fun e w' => e = .returned (.bool q) ∧ Below w.heap.size w w' := by
  unfold pcV
  have hB1 := fun o => (Below.refl w.heap.size w).alloc (Nat.le_refl _) o
  go_enter Tryz.func74, Tryz.ntmps74
  go_upto_region 1 with fail
  have hk1 := Blk.new w [.int .i64 k, .string t, .int .i64 p, .bool c, .slice AK mK cK, .slice AY mY cY] 66
  have hW1 := hB1 (.cells #[.int .i64 k, .string t, .int .i64 p, .bool c, .slice AK mK cK, .slice AY mY cY] 66)
  generalize w.alloc (.cells #[.int .i64 k, .string t, .int .i64 p, .bool c, .slice AK mK cK, .slice AY mY cY] 66) = w1 at hk1 hW1 ⊢
  generalize hyy : w.heap.size = y at hk1 ⊢
  replace hyy := Lib.hid hyy
  have y4 := hk1.cell (i := 4) rfl
  have yl := hk1.lt
  have hc1 := hc w1 hW1
  replace hW1 := Lib.hid hW1
  clear hk1 hc hB1
  go_wp2_with fail
  refine hc1.mono ?_
  rintro e w2 ⟨rfl, hb2⟩
  have hW2 := Lib.hid (hW1.out.trans (hb2.mono hW1.out.size))
  clear hc1 hb2 hW1 y4 yl
  go_wp2
  go_ret
  exact ⟨rfl, hW2.out⟩
set_option maxRecDepth 100000 in
set_option maxHeartbeats 8000000 in
theorem jcut_any {q : Bool} {s : ByteArray} (hs9 : s.toList.isEmpty = s.data.toList.isEmpty) (htK : Ty K 1) (hsK : Slc w0 AK cK K) (hfr : Below w0.heap.size w0 w)
    (hc : ∀ W, Below w.heap.size w W → Calls Tryz.prog 114 #[.pointer (some ⟨jb, 0, none⟩), .slice AK K.len cK, .int .i64 2] W fun e w' => e = .returned (.bool q) ∧ Below W.heap.size W w') :
    Calls Tryz.prog 115 #[.pointer (some ⟨jb, 0, none⟩), pcV k t p c (.slice AK K.len cK) (.slice AY mY cY), .string s] w fun e w' => e = .returned (.bool (cutOwn c K s.data.toList && q)) ∧ Below w.heap.size w w' := by
  unfold pcV
  obtain ⟨x, hx⟩ : ∃ x, (cutOwn c K s.data.toList && q) = x := ⟨_, rfl⟩
  rw [hx]
  unfold cutOwn at hx
  have hbg := fun W (hb : Below w.heap.size w W) => beginning_any htK hsK (hfr.trans (hb.mono hfr.size))
  have hpf := fun W => hasPrefix_any (beginP K) s W
  generalize Lib.hasPrefix (beginP K).data.toList s.data.toList = h at hpf hx
  generalize beginP K = b at hbg hpf
  generalize K.len = mK at hc hbg ⊢
  rw [← hs9] at hx
  have hB1 := fun o => (Below.refl w.heap.size w).alloc (Nat.le_refl _) o
  replace hc := Lib.hid hc
  replace hbg := Lib.hid hbg
  replace hpf := Lib.hid hpf
  clear htK hsK hfr hs9
  go_enter Tryz.func115, Tryz.ntmps115
  go_upto_region 1 with fail
  have hk1 := Blk.new w [.int .i64 k, .string t, .int .i64 p, .bool c, .slice AK mK cK, .slice AY mY cY] 66
  have hW1 := hB1 (.cells #[.int .i64 k, .string t, .int .i64 p, .bool c, .slice AK mK cK, .slice AY mY cY] 66)
  generalize w.alloc (.cells #[.int .i64 k, .string t, .int .i64 p, .bool c, .slice AK mK cK, .slice AY mY cY] 66) = w1 at hk1 hW1 ⊢
  generalize hyy : w.heap.size = y at hk1 ⊢
  replace hyy := Lib.hid hyy
  have y3 := hk1.cell (i := 3) rfl
  have y4 := hk1.cell (i := 4) rfl
  have yl := hk1.lt
  have hc1 := hc.out w1 hW1
  have hbg1 := hbg.out w1 hW1
  have hpf1 := hpf.out w1
  replace hW1 := Lib.hid hW1
  replace hc1 := Lib.hid hc1
  clear hk1 hc hB1 hbg hpf
  cases c
  · by_cases hse : s.toList.isEmpty = true
    · obtain rfl : q = x := by rw [← hx, hse]; simp
      clear hx hbg1 hpf1
      go_wp2_with fail
      refine hc1.out.mono ?_
      rintro e w2 ⟨rfl, hb2⟩
      have hW2 := Lib.hid (hW1.out.trans (hb2.mono hW1.out.size))
      clear hc1 hb2 hW1 y3 y4 yl
      go_wp2
      go_ret
      exact ⟨rfl, hW2.out⟩
    · have hse2 : s.toList.isEmpty = false := by simpa using hse
      clear hse
      go_wp2_with fail
      refine hbg1.mono ?_
      rintro e w2 ⟨rfl, hw2⟩
      obtain rfl := hw2.symm
      clear hbg1
      go_wp2_with fail
      refine hpf1.mono ?_
      rintro e w2 ⟨rfl, hw2⟩
      obtain rfl := hw2.symm
      clear hpf1
      cases h
      · obtain rfl : q = x := by rw [← hx]; simp
        clear hx
        go_wp2_with fail
        refine hc1.out.mono ?_
        rintro e w2 ⟨rfl, hb2⟩
        have hW2 := Lib.hid (hW1.out.trans (hb2.mono hW1.out.size))
        clear hc1 hb2 hW1 y3 y4 yl
        go_wp2
        go_ret
        exact ⟨rfl, hW2.out⟩
      · obtain rfl : false = x := by rw [← hx, hse2]; simp
        clear hx hc1
        go_wp2
        go_ret
        exact ⟨rfl, hW1.out⟩
  · obtain rfl : false = x := by rw [← hx]; simp
    clear hx hc1
    by_cases hse : s.toList.isEmpty = true
    · clear hbg1 hpf1
      go_wp2
      go_ret
      exact ⟨rfl, hW1.out⟩
    · have hse2 : s.toList.isEmpty = false := by simpa using hse
      clear hse
      go_wp2_with fail
      refine hbg1.mono ?_
      rintro e w2 ⟨rfl, hw2⟩
      obtain rfl := hw2.symm
      clear hbg1
      go_wp2_with fail
      refine hpf1.mono ?_
      rintro e w2 ⟨rfl, hw2⟩
      obtain rfl := hw2.symm
      clear hpf1
      go_wp2
      go_ret
      exact ⟨rfl, hW1.out⟩
set_option maxRecDepth 100000 in
set_option maxHeartbeats 4000000 in
theorem jdown_any {u : FrameMode} {z : Nat} (hz : w.cell? ⟨z, 0, none⟩ = some (.pointer (some ⟨jb, 0, none⟩))) (hzl : z < w.heap.size) (hJ : Jd w0 w jb cm pm (a + 1)) (ha : a + 1 ≤ 4194304) :
    CallsD Tryz.prog 116 #[.pointer (some ⟨z, 0, none⟩)] u w fun e u' w' => u' = u ∧ (e = .returned (.tuple #[]) ∧ w' = w.setCell ⟨jb, 2, none⟩ (.int .i64 (a : Int))) := by
  have j2 := hJ.blk.cell (i := 2) rfl
  have jl := hJ.blk.lt
  have jf := hJ.blk.frozen 2
  have hcast : ((a + 1 : Nat) : Int) - 1 = (a : Int) := by omega
  have hwr : wrap64 (a : Int) = (a : Int) := by have h := IntKind.wrap_i64 (a : Int); unfold wrap64; omega
  clear hJ ha
  go_enter_d Tryz.func116, Tryz.ntmps116
  go_wp2
  go_end0
  exact ⟨rfl, rfl⟩
theorem back_below {w w1 w4 : World} {cur : List Value} {ty : TypeId} {i : Nat} {u old : Value} (hj : Blk w jb cur ty) (hi : cur[i]? = some old) (h1 : Below w.heap.size w w1) (h2 : Below w1.heap.size (w1.setCell ⟨jb, i, none⟩ u) w4) : Below w.heap.size w (w4.setCell ⟨jb, i, none⟩ old) := by
  have h2s : w1.heap.size ≤ w4.heap.size := by have := h2.size; rwa [World.size_setCell] at this
  have hj1 : Blk w1 jb cur ty := (h1.block jb hj.lt).trans hj
  have hj4 : Blk w4 jb (cur.set i u) ty := (h2.block jb hj1.lt).trans (hj1.set i u)
  have hj5 := hj4.set i old
  refine ⟨h2.os.trans h1.os, h2.tape.trans h1.tape, h2.output.trans h1.output, ?_, fun n hn => ?_⟩
  · rw [World.size_setCell]; exact Nat.le_trans h1.size h2s
  · have hn1 : n < w1.heap.size := Nat.lt_of_lt_of_le hn h1.size
    by_cases hnj : n = jb
    · subst hnj
      have e5 : (w4.setCell ⟨n, i, none⟩ old).heap[n]? = some (.cells ((cur.set i u).set i old).toArray ty (0, 0)) := hj5
      have e0 : w.heap[n]? = some (.cells cur.toArray ty (0, 0)) := hj
      rw [e5, e0, List.set_set]
      have : cur.set i old = cur := by
        apply List.ext_getElem? ; intro k
        rw [List.getElem?_set]
        split
        · rename_i h; subst h; split
          · exact hi.symm
          · rename_i h2; exact (List.getElem?_eq_none (by omega)).symm
        · rfl
      rw [this]
    · have hs1 := (Stp.set (S := fun b => b = jb) (w := w1) (b := jb) rfl i u).block n hn1 hnj
      have hs4 := (Stp.set (S := fun b => b = jb) (w := w4) (b := jb) rfl i old).block n (Nat.lt_of_lt_of_le hn1 h2s) hnj
      exact hs4.trans (((h2.block n hn1).trans hs1).trans (h1.block n hn))
set_option maxRecDepth 100000 in
set_option maxHeartbeats 8000000 in
theorem jcommand_any {q : Bool} (hJ : Jd w0 w jb cm pm a) (ha : a + 1 ≤ 4194304)
    (hc : ∀ W, Jd w0 W jb cm pm (a + 1) → Calls Tryz.prog 26 #[.pointer (some ⟨jb, 0, none⟩), .slice AY mY cY] W fun e w' => e = .returned (.bool q) ∧ Below W.heap.size W w') :
    Calls Tryz.prog 76 #[.pointer (some ⟨jb, 0, none⟩), pcV k t p c (.slice AK mK cK) (.slice AY mY cY), .int .i64 m] w fun e w' => e = .returned (.bool q) ∧ Below w.heap.size w w' := by
  unfold pcV
  have hmf := hmfunc
  have hB1 := fun o1 o2 => ((Below.refl w.heap.size w).alloc (Nat.le_refl _) o1).alloc (by rw [World.size_alloc]; omega) o2
  have hcast : ((a + 1 : Nat) : Int) = (a : Int) + 1 := by omega
  have ha9 : (a : Int) + 1 ≤ 4194304 := by omega
  have hwr : IntKind.i64.wrap ((a : Int) + 1) = (a : Int) + 1 := by rw [IntKind.wrap_i64]; omega
  replace hc := Lib.hid hc
  replace hJ := Lib.hid hJ
  replace ha := Lib.hid ha
  go_enter_defers Tryz.func76, Tryz.ntmps76
  go_upto_region 1 with fail
  have hk0 := Blk.new w [.pointer (some ⟨jb, 0, none⟩)] 56
  have hW0 := (Below.refl w.heap.size w).alloc (Nat.le_refl _) (.cells #[.pointer (some ⟨jb, 0, none⟩)] 56)
  have hsx : (w.alloc (.cells #[.pointer (some ⟨jb, 0, none⟩)] 56)).heap.size = w.heap.size + 1 := by rw [World.size_alloc]
  generalize w.alloc (.cells #[.pointer (some ⟨jb, 0, none⟩)] 56) = wx at hk0 hW0 hsx ⊢
  have hk1 := Blk.new wx [.int .i64 k, .string t, .int .i64 p, .bool c, .slice AK mK cK, .slice AY mY cY] 66
  have hW1 := (Below.refl wx.heap.size wx).alloc (Nat.le_refl _) (.cells #[.int .i64 k, .string t, .int .i64 p, .bool c, .slice AK mK cK, .slice AY mY cY] 66)
  generalize wx.alloc (.cells #[.int .i64 k, .string t, .int .i64 p, .bool c, .slice AK mK cK, .slice AY mY cY] 66) = w1 at hk1 hW1 ⊢
  have hk0' : Blk w1 w.heap.size _ _ := (hW1.block _ hk0.lt).trans hk0
  have hW := hW0.trans (hW1.mono hW0.size)
  rw [hsx] at hk1
  generalize hzz : w.heap.size = z at hk0' hk1 ⊢
  have hJ1 := hJ.out.below hW
  have z0 := hk0'.cell (i := 0) rfl
  have zl := hk0'.lt
  have j2 := hJ1.blk.cell (i := 2) rfl
  have jl := hJ1.blk.lt
  have jf := hJ1.blk.frozen 2
  have hJ2 := hJ1.at (a + 1)
  have hback := fun w4 (h : Below w1.heap.size (w1.setCell ⟨jb, 2, none⟩ (.int .i64 ((a + 1 : Nat) : Int))) w4) => back_below hJ.out.blk (i := 2) rfl hW h
  rw [hcast] at hJ2 hback
  have hne : jb ≠ z := by rw [← hzz]; exact Nat.ne_of_lt hJ.out.blk.lt
  have hney : jb ≠ z + 1 := by have := hJ.out.blk.lt; omega
  have hk2 : Blk (w1.setCell ⟨jb, 2, none⟩ (.int .i64 ((a : Int) + 1))) z _ _ := ((Stp.set (S := fun b => b = jb) (w := w1) (b := jb) rfl 2 _).block z zl (Ne.symm hne)).trans hk0'
  have hk3 : Blk (w1.setCell ⟨jb, 2, none⟩ (.int .i64 ((a : Int) + 1))) (z + 1) _ _ := ((Stp.set (S := fun b => b = jb) (w := w1) (b := jb) rfl 2 _).block (z + 1) hk1.lt (Ne.symm hney)).trans hk1
  have hsz : (w1.setCell ⟨jb, 2, none⟩ (.int .i64 ((a : Int) + 1))).heap.size = w1.heap.size := World.size_setCell ..
  replace hJ2 := Lib.hid hJ2
  replace hback := Lib.hid hback
  replace hk2 := Lib.hid hk2
  replace hk3 := Lib.hid hk3
  replace hne := Lib.hid hne
  replace hney := Lib.hid hney
  replace hzz := Lib.hid hzz
  replace hsz := Lib.hid hsz
  replace hcast := Lib.hid hcast
  clear hk0 hW0 hk1 hW1 hk0' hW hJ1 hB1 hsx
  go_upto_region 2 with fail
  clear z0 j2 jl jf hwr ha9 zl
  generalize w1.setCell ⟨jb, 2, none⟩ (.int .i64 ((a : Int) + 1)) = w2 at hJ2 hback hk2 hk3 hsz ⊢
  have z0 := hk2.out.cell (i := 0) rfl
  have zl := hk2.out.lt
  have y5 := hk3.out.cell (i := 5) rfl
  have yl := hk3.out.lt
  have hc2 := hc.out w2 hJ2.out
  clear hc hJ
  go_wp2_with fail
  refine hc2.mono ?_
  rintro e w4 ⟨rfl, hb4⟩
  have hk4 : Blk w4 z _ _ := (hb4.block z zl).trans hk2.out
  have hJ4 := hJ2.out.below hb4
  have hfin := Lib.hid (hback.out w4 (by rw [hsz.out] at hb4; exact hb4))
  have z4 := hk4.cell (i := 0) rfl
  have zl4 := hk4.lt
  replace hJ4 := Lib.hid hJ4
  clear hc2 hb4 hk2 hk3 hback hJ2 z0 zl y5 yl hk4
  go_wp2
  refine leaves_cons (f := 116) (args := #[.pointer (some ⟨z, 0, none⟩)]) (by simp) (by simp [go_sem]) ?_
  refine (jdown_any z4 zl4 hJ4.out ha.out).mono ?_
  rintro e u' w5 ⟨rfl, rfl, rfl⟩
  exact ⟨_, results_tmp rfl _ _ _, rfl, hfin.out⟩
end
end
end Go.Proofs.YtmchfoedjajbdaaGreat
/-
  trees: a judge's rule of parameters. Conditions: not too great.
-/
set_option linter.unusedSimpArgs false
set_option linter.unusedVariables false
namespace Go.Proofs.YtmchfoedjajbdaaGreat
open Go Go.RowKit Go.ChangeMaps

section
variable {n0 : Nat} {w0 w : World} {jb cm pm a : Nat} {k p m : Int} {t : ByteArray} {c : Bool} {AK AY : Option Addr} {cK cY mK mY : Nat} {K Y : F}
set_option maxRecDepth 100000 in
set_option maxHeartbeats 16000000 in
theorem jparam_any {u x : Bool} (hz : t.size ≤ 1000000) (htK : Ty K 1) (hsK : Slc w0 AK cK K) (hfr : Below w0.heap.size w0 w) (hl : K.len ≤ 4194304) (hu0 : K.len = 0 → u = true)
    (hc : ∀ W, Below w.heap.size w W → Calls Tryz.prog 114 #[.pointer (some ⟨jb, 0, none⟩), .slice AK K.len cK, .int .i64 2] W fun e w' => e = .returned (.bool u) ∧ Below W.heap.size W w')
    (hx : (paramOwn t p c K && u) = x) :
    Calls Tryz.prog 75 #[.pointer (some ⟨jb, 0, none⟩), pcV k t p c (.slice AK K.len cK) (.slice AY mY cY), .int .i64 m] w fun e w' => e = .returned (.bool x) ∧ Below w.heap.size w w' := by
  have hp := fun W => Parameter_any t hz W
  have hs := fun W => isSign_any t hz W
  have hcut := fun (s : ByteArray) (h9 : s.toList.isEmpty = s.data.toList.isEmpty) W (hb : Below w.heap.size w W) => jcut_any (jb := jb) (k := k) (p := p) (t := t) (c := c) (AY := AY) (cY := cY) (mY := mY) (w := W) h9 htK hsK (hfr.trans (hb.mono hfr.size)) (fun W2 h2 => hc W2 (hb.trans (h2.mono hb.size)))
  have hc1 := hcut ⟨#[35]⟩ (by decide +kernel)
  have hc2 := hcut ⟨#[37]⟩ (by decide +kernel)
  have hc3 := hcut ⟨#[]⟩ (by decide +kernel)
  rw [show (ByteArray.mk #[35]).data.toList = [35] from rfl] at hc1
  rw [show (ByteArray.mk #[37]).data.toList = [37] from rfl] at hc2
  rw [show (ByteArray.mk #[]).data.toList = [] from rfl] at hc3
  unfold paramOwn at hx
  unfold pcV at hc1 hc2 hc3 ⊢
  generalize cutOwn c K [35] = o1 at hc1 hx
  generalize cutOwn c K [37] = o2 at hc2 hx
  generalize cutOwn c K [] = o3 at hc3 hx
  generalize K.len = mK at hc hc1 hc2 hc3 hl hu0 hx ⊢
  generalize paramB t = b1 at hp hx
  generalize signB t = b2 at hs hx
  have hB1 := fun o => (Below.refl w.heap.size w).alloc (Nat.le_refl _) o
  replace hc := Lib.hid hc
  replace hc1 := Lib.hid hc1
  replace hc2 := Lib.hid hc2
  replace hc3 := Lib.hid hc3
  replace hp := Lib.hid hp
  replace hs := Lib.hid hs
  clear hcut htK hsK hfr hz
  cases b1
  · obtain rfl : false = x := by rw [← hx]; simp
    clear hx hc hc1 hc2 hc3
    go_enter Tryz.func75, Tryz.ntmps75
    go_upto_region 1 with fail
    have hk1 := Blk.new w [.int .i64 k, .string t, .int .i64 p, .bool c, .slice AK mK cK, .slice AY mY cY] 66
    have hW1 := hB1 (.cells #[.int .i64 k, .string t, .int .i64 p, .bool c, .slice AK mK cK, .slice AY mY cY] 66)
    generalize w.alloc (.cells #[.int .i64 k, .string t, .int .i64 p, .bool c, .slice AK mK cK, .slice AY mY cY] 66) = w1 at hk1 hW1 ⊢
    generalize hyy : w.heap.size = y at hk1 ⊢
    replace hyy := Lib.hid hyy
    have y0 := hk1.cell (i := 0) rfl
    have y1 := hk1.cell (i := 1) rfl
    have y2 := hk1.cell (i := 2) rfl
    have y3 := hk1.cell (i := 3) rfl
    have y4 := hk1.cell (i := 4) rfl
    have y5 := hk1.cell (i := 5) rfl
    have yl := hk1.lt
    have hp1 := hp.out w1
    have hs1 := hs.out w1
    clear hp hs hB1 hk1
    replace hW1 := Lib.hid hW1
    clear hs1
    go_wp2_with fail
    refine hp1.mono ?_
    rintro e w2 ⟨rfl, hw2⟩
    obtain rfl := hw2.symm
    clear hp1
    go_wp2
    go_ret
    exact ⟨rfl, hW1.out⟩
  · cases b2
    · by_cases h0 : p = 0
      · subst h0
        go_enter Tryz.func75, Tryz.ntmps75
        go_upto_region 1 with fail
        have hk1 := Blk.new w [.int .i64 k, .string t, .int .i64 0, .bool c, .slice AK mK cK, .slice AY mY cY] 66
        have hW1 := hB1 (.cells #[.int .i64 k, .string t, .int .i64 0, .bool c, .slice AK mK cK, .slice AY mY cY] 66)
        generalize w.alloc (.cells #[.int .i64 k, .string t, .int .i64 0, .bool c, .slice AK mK cK, .slice AY mY cY] 66) = w1 at hk1 hW1 ⊢
        generalize hyy : w.heap.size = y at hk1 ⊢
        replace hyy := Lib.hid hyy
        have y0 := hk1.cell (i := 0) rfl
        have y1 := hk1.cell (i := 1) rfl
        have y2 := hk1.cell (i := 2) rfl
        have y3 := hk1.cell (i := 3) rfl
        have y4 := hk1.cell (i := 4) rfl
        have y5 := hk1.cell (i := 5) rfl
        have yl := hk1.lt
        have hp1 := hp.out w1
        have hs1 := hs.out w1
        clear hp hs hB1 hk1
        replace hW1 := Lib.hid hW1
        go_wp2_with fail
        refine hp1.mono ?_
        rintro e w2 ⟨rfl, hw2⟩
        obtain rfl := hw2.symm
        clear hp1
        go_wp2_with fail
        refine hs1.mono ?_
        rintro e w2 ⟨rfl, hw2⟩
        obtain rfl := hw2.symm
        clear hs1
        obtain rfl : (decide (mK = 0) && !c) = x := by
          rw [← hx]
          by_cases h0 : mK = 0
          · rw [hu0 h0]; simp [h0]
          · simp [h0]
        clear hx hc hc1 hc2 hc3
        by_cases h0 : mK = 0
        · subst h0
          cases c
          · clear hu0
            go_wp2
            go_ret
            exact ⟨by simp, hW1.out⟩
          · clear hu0
            go_wp2
            go_ret
            exact ⟨by simp, hW1.out⟩
        · have g0 : ((mK : Int) == 0) = false := beq_eq_false_iff_ne.2 (by omega)
          go_wp2
          go_ret
          exact ⟨by simp [h0], hW1.out⟩
      · skip
        by_cases h1 : p = 1
        · subst h1
          go_enter Tryz.func75, Tryz.ntmps75
          go_upto_region 1 with fail
          have hk1 := Blk.new w [.int .i64 k, .string t, .int .i64 1, .bool c, .slice AK mK cK, .slice AY mY cY] 66
          have hW1 := hB1 (.cells #[.int .i64 k, .string t, .int .i64 1, .bool c, .slice AK mK cK, .slice AY mY cY] 66)
          generalize w.alloc (.cells #[.int .i64 k, .string t, .int .i64 1, .bool c, .slice AK mK cK, .slice AY mY cY] 66) = w1 at hk1 hW1 ⊢
          generalize hyy : w.heap.size = y at hk1 ⊢
          replace hyy := Lib.hid hyy
          have y0 := hk1.cell (i := 0) rfl
          have y1 := hk1.cell (i := 1) rfl
          have y2 := hk1.cell (i := 2) rfl
          have y3 := hk1.cell (i := 3) rfl
          have y4 := hk1.cell (i := 4) rfl
          have y5 := hk1.cell (i := 5) rfl
          have yl := hk1.lt
          have hp1 := hp.out w1
          have hs1 := hs.out w1
          clear hp hs hB1 hk1
          replace hW1 := Lib.hid hW1
          go_wp2_with fail
          refine hp1.mono ?_
          rintro e w2 ⟨rfl, hw2⟩
          obtain rfl := hw2.symm
          clear hp1
          go_wp2_with fail
          refine hs1.mono ?_
          rintro e w2 ⟨rfl, hw2⟩
          obtain rfl := hw2.symm
          clear hs1
          obtain rfl : (decide (mK = 0) && !c) = x := by
            rw [← hx]
            by_cases h0 : mK = 0
            · rw [hu0 h0]; simp [h0]
            · simp [h0]
          clear hx hc hc1 hc2 hc3
          by_cases h0 : mK = 0
          · subst h0
            cases c
            · clear hu0
              go_wp2
              go_ret
              exact ⟨by simp, hW1.out⟩
            · clear hu0
              go_wp2
              go_ret
              exact ⟨by simp, hW1.out⟩
          · have g0 : ((mK : Int) == 0) = false := beq_eq_false_iff_ne.2 (by omega)
            go_wp2
            go_ret
            exact ⟨by simp [h0], hW1.out⟩
        · skip
          by_cases h2 : p = 2
          · subst h2
            go_enter Tryz.func75, Tryz.ntmps75
            go_upto_region 1 with fail
            have hk1 := Blk.new w [.int .i64 k, .string t, .int .i64 2, .bool c, .slice AK mK cK, .slice AY mY cY] 66
            have hW1 := hB1 (.cells #[.int .i64 k, .string t, .int .i64 2, .bool c, .slice AK mK cK, .slice AY mY cY] 66)
            generalize w.alloc (.cells #[.int .i64 k, .string t, .int .i64 2, .bool c, .slice AK mK cK, .slice AY mY cY] 66) = w1 at hk1 hW1 ⊢
            generalize hyy : w.heap.size = y at hk1 ⊢
            replace hyy := Lib.hid hyy
            have y0 := hk1.cell (i := 0) rfl
            have y1 := hk1.cell (i := 1) rfl
            have y2 := hk1.cell (i := 2) rfl
            have y3 := hk1.cell (i := 3) rfl
            have y4 := hk1.cell (i := 4) rfl
            have y5 := hk1.cell (i := 5) rfl
            have yl := hk1.lt
            have hp1 := hp.out w1
            have hs1 := hs.out w1
            clear hp hs hB1 hk1
            replace hW1 := Lib.hid hW1
            go_wp2_with fail
            refine hp1.mono ?_
            rintro e w2 ⟨rfl, hw2⟩
            obtain rfl := hw2.symm
            clear hp1
            go_wp2_with fail
            refine hs1.mono ?_
            rintro e w2 ⟨rfl, hw2⟩
            obtain rfl := hw2.symm
            clear hs1
            obtain rfl : u = x := by rw [← hx]; simp
            have hk9 := hc.out w1 hW1.out
            clear hx hc hc1 hc2 hc3
            go_wp2_with fail
            refine hk9.mono ?_
            rintro e w3 ⟨rfl, hb3⟩
            have hW3 := Lib.hid (hW1.out.trans (hb3.mono hW1.out.size))
            clear hk9 hb3 y0 y1 y2 y3 y4 y5 yl
            go_wp2
            go_ret
            exact ⟨rfl, hW3.out⟩
          · skip
            by_cases h3 : p = 3
            · subst h3
              go_enter Tryz.func75, Tryz.ntmps75
              go_upto_region 1 with fail
              have hk1 := Blk.new w [.int .i64 k, .string t, .int .i64 3, .bool c, .slice AK mK cK, .slice AY mY cY] 66
              have hW1 := hB1 (.cells #[.int .i64 k, .string t, .int .i64 3, .bool c, .slice AK mK cK, .slice AY mY cY] 66)
              generalize w.alloc (.cells #[.int .i64 k, .string t, .int .i64 3, .bool c, .slice AK mK cK, .slice AY mY cY] 66) = w1 at hk1 hW1 ⊢
              generalize hyy : w.heap.size = y at hk1 ⊢
              replace hyy := Lib.hid hyy
              have y0 := hk1.cell (i := 0) rfl
              have y1 := hk1.cell (i := 1) rfl
              have y2 := hk1.cell (i := 2) rfl
              have y3 := hk1.cell (i := 3) rfl
              have y4 := hk1.cell (i := 4) rfl
              have y5 := hk1.cell (i := 5) rfl
              have yl := hk1.lt
              have hp1 := hp.out w1
              have hs1 := hs.out w1
              clear hp hs hB1 hk1
              replace hW1 := Lib.hid hW1
              go_wp2_with fail
              refine hp1.mono ?_
              rintro e w2 ⟨rfl, hw2⟩
              obtain rfl := hw2.symm
              clear hp1
              go_wp2_with fail
              refine hs1.mono ?_
              rintro e w2 ⟨rfl, hw2⟩
              obtain rfl := hw2.symm
              clear hs1
              obtain rfl : u = x := by rw [← hx]; simp
              have hk9 := hc.out w1 hW1.out
              clear hx hc hc1 hc2 hc3
              go_wp2_with fail
              refine hk9.mono ?_
              rintro e w3 ⟨rfl, hb3⟩
              have hW3 := Lib.hid (hW1.out.trans (hb3.mono hW1.out.size))
              clear hk9 hb3 y0 y1 y2 y3 y4 y5 yl
              go_wp2
              go_ret
              exact ⟨rfl, hW3.out⟩
            · skip
              by_cases h4 : p = 4
              · subst h4
                go_enter Tryz.func75, Tryz.ntmps75
                go_upto_region 1 with fail
                have hk1 := Blk.new w [.int .i64 k, .string t, .int .i64 4, .bool c, .slice AK mK cK, .slice AY mY cY] 66
                have hW1 := hB1 (.cells #[.int .i64 k, .string t, .int .i64 4, .bool c, .slice AK mK cK, .slice AY mY cY] 66)
                generalize w.alloc (.cells #[.int .i64 k, .string t, .int .i64 4, .bool c, .slice AK mK cK, .slice AY mY cY] 66) = w1 at hk1 hW1 ⊢
                generalize hyy : w.heap.size = y at hk1 ⊢
                replace hyy := Lib.hid hyy
                have y0 := hk1.cell (i := 0) rfl
                have y1 := hk1.cell (i := 1) rfl
                have y2 := hk1.cell (i := 2) rfl
                have y3 := hk1.cell (i := 3) rfl
                have y4 := hk1.cell (i := 4) rfl
                have y5 := hk1.cell (i := 5) rfl
                have yl := hk1.lt
                have hp1 := hp.out w1
                have hs1 := hs.out w1
                clear hp hs hB1 hk1
                replace hW1 := Lib.hid hW1
                go_wp2_with fail
                refine hp1.mono ?_
                rintro e w2 ⟨rfl, hw2⟩
                obtain rfl := hw2.symm
                clear hp1
                go_wp2_with fail
                refine hs1.mono ?_
                rintro e w2 ⟨rfl, hw2⟩
                obtain rfl := hw2.symm
                clear hs1
                obtain rfl : u = x := by rw [← hx]; simp
                have hk9 := hc.out w1 hW1.out
                clear hx hc hc1 hc2 hc3
                go_wp2_with fail
                refine hk9.mono ?_
                rintro e w3 ⟨rfl, hb3⟩
                have hW3 := Lib.hid (hW1.out.trans (hb3.mono hW1.out.size))
                clear hk9 hb3 y0 y1 y2 y3 y4 y5 yl
                go_wp2
                go_ret
                exact ⟨rfl, hW3.out⟩
              · skip
                by_cases h5 : p = 5
                · subst h5
                  go_enter Tryz.func75, Tryz.ntmps75
                  go_upto_region 1 with fail
                  have hk1 := Blk.new w [.int .i64 k, .string t, .int .i64 5, .bool c, .slice AK mK cK, .slice AY mY cY] 66
                  have hW1 := hB1 (.cells #[.int .i64 k, .string t, .int .i64 5, .bool c, .slice AK mK cK, .slice AY mY cY] 66)
                  generalize w.alloc (.cells #[.int .i64 k, .string t, .int .i64 5, .bool c, .slice AK mK cK, .slice AY mY cY] 66) = w1 at hk1 hW1 ⊢
                  generalize hyy : w.heap.size = y at hk1 ⊢
                  replace hyy := Lib.hid hyy
                  have y0 := hk1.cell (i := 0) rfl
                  have y1 := hk1.cell (i := 1) rfl
                  have y2 := hk1.cell (i := 2) rfl
                  have y3 := hk1.cell (i := 3) rfl
                  have y4 := hk1.cell (i := 4) rfl
                  have y5 := hk1.cell (i := 5) rfl
                  have yl := hk1.lt
                  have hp1 := hp.out w1
                  have hs1 := hs.out w1
                  clear hp hs hB1 hk1
                  replace hW1 := Lib.hid hW1
                  go_wp2_with fail
                  refine hp1.mono ?_
                  rintro e w2 ⟨rfl, hw2⟩
                  obtain rfl := hw2.symm
                  clear hp1
                  go_wp2_with fail
                  refine hs1.mono ?_
                  rintro e w2 ⟨rfl, hw2⟩
                  obtain rfl := hw2.symm
                  clear hs1
                  obtain rfl : u = x := by rw [← hx]; simp
                  have hk9 := hc.out w1 hW1.out
                  clear hx hc hc1 hc2 hc3
                  go_wp2_with fail
                  refine hk9.mono ?_
                  rintro e w3 ⟨rfl, hb3⟩
                  have hW3 := Lib.hid (hW1.out.trans (hb3.mono hW1.out.size))
                  clear hk9 hb3 y0 y1 y2 y3 y4 y5 yl
                  go_wp2
                  go_ret
                  exact ⟨rfl, hW3.out⟩
                · skip
                  by_cases h6 : p = 6
                  · subst h6
                    go_enter Tryz.func75, Tryz.ntmps75
                    go_upto_region 1 with fail
                    have hk1 := Blk.new w [.int .i64 k, .string t, .int .i64 6, .bool c, .slice AK mK cK, .slice AY mY cY] 66
                    have hW1 := hB1 (.cells #[.int .i64 k, .string t, .int .i64 6, .bool c, .slice AK mK cK, .slice AY mY cY] 66)
                    generalize w.alloc (.cells #[.int .i64 k, .string t, .int .i64 6, .bool c, .slice AK mK cK, .slice AY mY cY] 66) = w1 at hk1 hW1 ⊢
                    generalize hyy : w.heap.size = y at hk1 ⊢
                    replace hyy := Lib.hid hyy
                    have y0 := hk1.cell (i := 0) rfl
                    have y1 := hk1.cell (i := 1) rfl
                    have y2 := hk1.cell (i := 2) rfl
                    have y3 := hk1.cell (i := 3) rfl
                    have y4 := hk1.cell (i := 4) rfl
                    have y5 := hk1.cell (i := 5) rfl
                    have yl := hk1.lt
                    have hp1 := hp.out w1
                    have hs1 := hs.out w1
                    clear hp hs hB1 hk1
                    replace hW1 := Lib.hid hW1
                    go_wp2_with fail
                    refine hp1.mono ?_
                    rintro e w2 ⟨rfl, hw2⟩
                    obtain rfl := hw2.symm
                    clear hp1
                    go_wp2_with fail
                    refine hs1.mono ?_
                    rintro e w2 ⟨rfl, hw2⟩
                    obtain rfl := hw2.symm
                    clear hs1
                    obtain rfl : (o1 && u) = x := by rw [← hx]; simp
                    have hk9 := hc1.out w1 hW1.out
                    clear hx hc hc1 hc2 hc3
                    go_wp2_with fail
                    refine hk9.mono ?_
                    rintro e w3 ⟨rfl, hb3⟩
                    have hW3 := Lib.hid (hW1.out.trans (hb3.mono hW1.out.size))
                    clear hk9 hb3 y0 y1 y2 y3 y4 y5 yl
                    go_wp2
                    go_ret
                    exact ⟨rfl, hW3.out⟩
                  · skip
                    by_cases h7 : p = 7
                    · subst h7
                      go_enter Tryz.func75, Tryz.ntmps75
                      go_upto_region 1 with fail
                      have hk1 := Blk.new w [.int .i64 k, .string t, .int .i64 7, .bool c, .slice AK mK cK, .slice AY mY cY] 66
                      have hW1 := hB1 (.cells #[.int .i64 k, .string t, .int .i64 7, .bool c, .slice AK mK cK, .slice AY mY cY] 66)
                      generalize w.alloc (.cells #[.int .i64 k, .string t, .int .i64 7, .bool c, .slice AK mK cK, .slice AY mY cY] 66) = w1 at hk1 hW1 ⊢
                      generalize hyy : w.heap.size = y at hk1 ⊢
                      replace hyy := Lib.hid hyy
                      have y0 := hk1.cell (i := 0) rfl
                      have y1 := hk1.cell (i := 1) rfl
                      have y2 := hk1.cell (i := 2) rfl
                      have y3 := hk1.cell (i := 3) rfl
                      have y4 := hk1.cell (i := 4) rfl
                      have y5 := hk1.cell (i := 5) rfl
                      have yl := hk1.lt
                      have hp1 := hp.out w1
                      have hs1 := hs.out w1
                      clear hp hs hB1 hk1
                      replace hW1 := Lib.hid hW1
                      go_wp2_with fail
                      refine hp1.mono ?_
                      rintro e w2 ⟨rfl, hw2⟩
                      obtain rfl := hw2.symm
                      clear hp1
                      go_wp2_with fail
                      refine hs1.mono ?_
                      rintro e w2 ⟨rfl, hw2⟩
                      obtain rfl := hw2.symm
                      clear hs1
                      obtain rfl : (o3 && u) = x := by rw [← hx]; simp
                      have hk9 := hc3.out w1 hW1.out
                      clear hx hc hc1 hc2 hc3
                      go_wp2_with fail
                      refine hk9.mono ?_
                      rintro e w3 ⟨rfl, hb3⟩
                      have hW3 := Lib.hid (hW1.out.trans (hb3.mono hW1.out.size))
                      clear hk9 hb3 y0 y1 y2 y3 y4 y5 yl
                      go_wp2
                      go_ret
                      exact ⟨rfl, hW3.out⟩
                    · skip
                      by_cases h8 : p = 8
                      · subst h8
                        go_enter Tryz.func75, Tryz.ntmps75
                        go_upto_region 1 with fail
                        have hk1 := Blk.new w [.int .i64 k, .string t, .int .i64 8, .bool c, .slice AK mK cK, .slice AY mY cY] 66
                        have hW1 := hB1 (.cells #[.int .i64 k, .string t, .int .i64 8, .bool c, .slice AK mK cK, .slice AY mY cY] 66)
                        generalize w.alloc (.cells #[.int .i64 k, .string t, .int .i64 8, .bool c, .slice AK mK cK, .slice AY mY cY] 66) = w1 at hk1 hW1 ⊢
                        generalize hyy : w.heap.size = y at hk1 ⊢
                        replace hyy := Lib.hid hyy
                        have y0 := hk1.cell (i := 0) rfl
                        have y1 := hk1.cell (i := 1) rfl
                        have y2 := hk1.cell (i := 2) rfl
                        have y3 := hk1.cell (i := 3) rfl
                        have y4 := hk1.cell (i := 4) rfl
                        have y5 := hk1.cell (i := 5) rfl
                        have yl := hk1.lt
                        have hp1 := hp.out w1
                        have hs1 := hs.out w1
                        clear hp hs hB1 hk1
                        replace hW1 := Lib.hid hW1
                        go_wp2_with fail
                        refine hp1.mono ?_
                        rintro e w2 ⟨rfl, hw2⟩
                        obtain rfl := hw2.symm
                        clear hp1
                        go_wp2_with fail
                        refine hs1.mono ?_
                        rintro e w2 ⟨rfl, hw2⟩
                        obtain rfl := hw2.symm
                        clear hs1
                        obtain rfl : (o2 && u) = x := by rw [← hx]; simp
                        have hk9 := hc2.out w1 hW1.out
                        clear hx hc hc1 hc2 hc3
                        go_wp2_with fail
                        refine hk9.mono ?_
                        rintro e w3 ⟨rfl, hb3⟩
                        have hW3 := Lib.hid (hW1.out.trans (hb3.mono hW1.out.size))
                        clear hk9 hb3 y0 y1 y2 y3 y4 y5 yl
                        go_wp2
                        go_ret
                        exact ⟨rfl, hW3.out⟩
                      · skip
                        by_cases h9 : p = 9
                        · subst h9
                          go_enter Tryz.func75, Tryz.ntmps75
                          go_upto_region 1 with fail
                          have hk1 := Blk.new w [.int .i64 k, .string t, .int .i64 9, .bool c, .slice AK mK cK, .slice AY mY cY] 66
                          have hW1 := hB1 (.cells #[.int .i64 k, .string t, .int .i64 9, .bool c, .slice AK mK cK, .slice AY mY cY] 66)
                          generalize w.alloc (.cells #[.int .i64 k, .string t, .int .i64 9, .bool c, .slice AK mK cK, .slice AY mY cY] 66) = w1 at hk1 hW1 ⊢
                          generalize hyy : w.heap.size = y at hk1 ⊢
                          replace hyy := Lib.hid hyy
                          have y0 := hk1.cell (i := 0) rfl
                          have y1 := hk1.cell (i := 1) rfl
                          have y2 := hk1.cell (i := 2) rfl
                          have y3 := hk1.cell (i := 3) rfl
                          have y4 := hk1.cell (i := 4) rfl
                          have y5 := hk1.cell (i := 5) rfl
                          have yl := hk1.lt
                          have hp1 := hp.out w1
                          have hs1 := hs.out w1
                          clear hp hs hB1 hk1
                          replace hW1 := Lib.hid hW1
                          go_wp2_with fail
                          refine hp1.mono ?_
                          rintro e w2 ⟨rfl, hw2⟩
                          obtain rfl := hw2.symm
                          clear hp1
                          go_wp2_with fail
                          refine hs1.mono ?_
                          rintro e w2 ⟨rfl, hw2⟩
                          obtain rfl := hw2.symm
                          clear hs1
                          obtain rfl : (o3 && u) = x := by rw [← hx]; simp
                          have hk9 := hc3.out w1 hW1.out
                          clear hx hc hc1 hc2 hc3
                          go_wp2_with fail
                          refine hk9.mono ?_
                          rintro e w3 ⟨rfl, hb3⟩
                          have hW3 := Lib.hid (hW1.out.trans (hb3.mono hW1.out.size))
                          clear hk9 hb3 y0 y1 y2 y3 y4 y5 yl
                          go_wp2
                          go_ret
                          exact ⟨rfl, hW3.out⟩
                        · skip
                          obtain rfl : false = x := by
                            rw [← hx, if_neg (by omega), if_neg (by omega), if_neg h6, if_neg h8, if_neg (by omega)]; simp
                          have g0 : (p == 0) = false := beq_eq_false_iff_ne.2 h0
                          have g1 : (p == 1) = false := beq_eq_false_iff_ne.2 h1
                          have g2 : (p == 2) = false := beq_eq_false_iff_ne.2 h2
                          have g3 : (p == 3) = false := beq_eq_false_iff_ne.2 h3
                          have g4 : (p == 4) = false := beq_eq_false_iff_ne.2 h4
                          have g5 : (p == 5) = false := beq_eq_false_iff_ne.2 h5
                          have g6 : (p == 6) = false := beq_eq_false_iff_ne.2 h6
                          have g7 : (p == 7) = false := beq_eq_false_iff_ne.2 h7
                          have g8 : (p == 8) = false := beq_eq_false_iff_ne.2 h8
                          have g9 : (p == 9) = false := beq_eq_false_iff_ne.2 h9
                          clear hx hc hc1 hc2 hc3
                          go_enter Tryz.func75, Tryz.ntmps75
                          go_upto_region 1 with fail
                          have hk1 := Blk.new w [.int .i64 k, .string t, .int .i64 p, .bool c, .slice AK mK cK, .slice AY mY cY] 66
                          have hW1 := hB1 (.cells #[.int .i64 k, .string t, .int .i64 p, .bool c, .slice AK mK cK, .slice AY mY cY] 66)
                          generalize w.alloc (.cells #[.int .i64 k, .string t, .int .i64 p, .bool c, .slice AK mK cK, .slice AY mY cY] 66) = w1 at hk1 hW1 ⊢
                          generalize hyy : w.heap.size = y at hk1 ⊢
                          replace hyy := Lib.hid hyy
                          have y0 := hk1.cell (i := 0) rfl
                          have y1 := hk1.cell (i := 1) rfl
                          have y2 := hk1.cell (i := 2) rfl
                          have y3 := hk1.cell (i := 3) rfl
                          have y4 := hk1.cell (i := 4) rfl
                          have y5 := hk1.cell (i := 5) rfl
                          have yl := hk1.lt
                          have hp1 := hp.out w1
                          have hs1 := hs.out w1
                          clear hp hs hB1 hk1
                          replace hW1 := Lib.hid hW1
                          go_wp2_with fail
                          refine hp1.mono ?_
                          rintro e w2 ⟨rfl, hw2⟩
                          obtain rfl := hw2.symm
                          clear hp1
                          go_wp2_with fail
                          refine hs1.mono ?_
                          rintro e w2 ⟨rfl, hw2⟩
                          obtain rfl := hw2.symm
                          clear hs1
                          go_wp2
                          go_ret
                          exact ⟨rfl, hW1.out⟩
    · by_cases h0 : p = 0
      · subst h0
        go_enter Tryz.func75, Tryz.ntmps75
        go_upto_region 1 with fail
        have hk1 := Blk.new w [.int .i64 k, .string t, .int .i64 0, .bool c, .slice AK mK cK, .slice AY mY cY] 66
        have hW1 := hB1 (.cells #[.int .i64 k, .string t, .int .i64 0, .bool c, .slice AK mK cK, .slice AY mY cY] 66)
        generalize w.alloc (.cells #[.int .i64 k, .string t, .int .i64 0, .bool c, .slice AK mK cK, .slice AY mY cY] 66) = w1 at hk1 hW1 ⊢
        generalize hyy : w.heap.size = y at hk1 ⊢
        replace hyy := Lib.hid hyy
        have y0 := hk1.cell (i := 0) rfl
        have y1 := hk1.cell (i := 1) rfl
        have y2 := hk1.cell (i := 2) rfl
        have y3 := hk1.cell (i := 3) rfl
        have y4 := hk1.cell (i := 4) rfl
        have y5 := hk1.cell (i := 5) rfl
        have yl := hk1.lt
        have hp1 := hp.out w1
        have hs1 := hs.out w1
        clear hp hs hB1 hk1
        replace hW1 := Lib.hid hW1
        go_wp2_with fail
        refine hp1.mono ?_
        rintro e w2 ⟨rfl, hw2⟩
        obtain rfl := hw2.symm
        clear hp1
        go_wp2_with fail
        refine hs1.mono ?_
        rintro e w2 ⟨rfl, hw2⟩
        obtain rfl := hw2.symm
        clear hs1
        obtain rfl : (decide (mK = 0) && !c) = x := by
          rw [← hx]
          by_cases h0 : mK = 0
          · rw [hu0 h0]; simp [h0]
          · simp [h0]
        clear hx hc hc1 hc2 hc3
        by_cases h0 : mK = 0
        · subst h0
          cases c
          · clear hu0
            go_wp2
            go_ret
            exact ⟨by simp, hW1.out⟩
          · clear hu0
            go_wp2
            go_ret
            exact ⟨by simp, hW1.out⟩
        · have g0 : ((mK : Int) == 0) = false := beq_eq_false_iff_ne.2 (by omega)
          go_wp2
          go_ret
          exact ⟨by simp [h0], hW1.out⟩
      · obtain rfl : false = x := by rw [← hx]; simp [h0]
        have g0 : (p != 0) = true := by simp [h0]
        clear hx hc hc1 hc2 hc3
        go_enter Tryz.func75, Tryz.ntmps75
        go_upto_region 1 with fail
        have hk1 := Blk.new w [.int .i64 k, .string t, .int .i64 p, .bool c, .slice AK mK cK, .slice AY mY cY] 66
        have hW1 := hB1 (.cells #[.int .i64 k, .string t, .int .i64 p, .bool c, .slice AK mK cK, .slice AY mY cY] 66)
        generalize w.alloc (.cells #[.int .i64 k, .string t, .int .i64 p, .bool c, .slice AK mK cK, .slice AY mY cY] 66) = w1 at hk1 hW1 ⊢
        generalize hyy : w.heap.size = y at hk1 ⊢
        replace hyy := Lib.hid hyy
        have y0 := hk1.cell (i := 0) rfl
        have y1 := hk1.cell (i := 1) rfl
        have y2 := hk1.cell (i := 2) rfl
        have y3 := hk1.cell (i := 3) rfl
        have y4 := hk1.cell (i := 4) rfl
        have y5 := hk1.cell (i := 5) rfl
        have yl := hk1.lt
        have hp1 := hp.out w1
        have hs1 := hs.out w1
        clear hp hs hB1 hk1
        replace hW1 := Lib.hid hW1
        go_wp2_with fail
        refine hp1.mono ?_
        rintro e w2 ⟨rfl, hw2⟩
        obtain rfl := hw2.symm
        clear hp1
        go_wp2_with fail
        refine hs1.mono ?_
        rintro e w2 ⟨rfl, hw2⟩
        obtain rfl := hw2.symm
        clear hs1
        go_wp2
        go_ret
        exact ⟨rfl, hW1.out⟩
end
end Go.Proofs.YtmchfoedjajbdaaGreat
/-
  trees: a judge's rule of sums. Conditions: not too great.
-/
set_option linter.unusedSimpArgs false
set_option linter.unusedVariables false
namespace Go.Proofs.YtmchfoedjajbdaaGreat
open Go Go.RowKit Go.ChangeMaps

theorem par_step {t : ByteArray} {i n : Nat} {b : UInt8} (hi : i < t.size) (hb : t[i]'hi = b) : parL (t.data.toList.drop i) n = if b.toNat = 40 then parL (t.data.toList.drop (i + 1)) (n + 1) else if b.toNat = 41 then (match n with | 0 => none | m + 1 => parL (t.data.toList.drop (i + 1)) m) else parL (t.data.toList.drop (i + 1)) n := by
  have hl : i < t.data.toList.length := by rw [← Lib.size_eq]; exact hi
  rw [List.drop_eq_getElem_cons hl]
  have : t.data.toList[i] = b := hb
  rw [this]
  rfl
section
variable {n0 : Nat} {w0 w : World} {jb cm pm a : Nat} {k p m : Int} {t : ByteArray} {c : Bool} {AK AY : Option Addr} {cK cY mK mY : Nat} {K Y : F}
set_option maxRecDepth 100000 in
set_option maxHeartbeats 16000000 in
theorem jmath_any {u x : Bool} (hy : byF K ≤ 1000000) (hl : K.len ≤ 4194304) (htK : Ty K 1) (hsK : Slc w0 AK cK K) (hfr : Below w0.heap.size w0 w)
    (hc : ∀ W, Below w.heap.size w W → Calls Tryz.prog 114 #[.pointer (some ⟨jb, 0, none⟩), .slice AK K.len cK, .int .i64 8] W fun e w' => e = .returned (.bool u) ∧ Below W.heap.size W w')
    (hx : (decide (parF K 0 = some 0) && u) = x) :
    Calls Tryz.prog 77 #[.pointer (some ⟨jb, 0, none⟩), pcV k t p c (.slice AK K.len cK) (.slice AY mY cY), .int .i64 m] w fun e w' => e = .returned (.bool x) ∧ Below w.heap.size w w' := by
  have hmK := hsK.1
  have hcm := hsK.2.1
  unfold maxLen at hcm
  obtain ⟨N, hN⟩ : ∃ N, K.len = N := ⟨_, rfl⟩
  obtain ⟨X, hX⟩ : ∃ X, parF K 0 = X := ⟨_, rfl⟩
  rw [hX] at hx
  unfold pcV
  rw [hN] at hc hl hmK ⊢
  have hB1 := fun o => (Below.refl w.heap.size w).alloc (Nat.le_refl _) o
  have hI0 : Hid (parF (K.drop 0) 0 = X ∧ 0 + byF (K.drop 0) ≤ 1000000) := Lib.hid ⟨hX, by show 0 + byF K ≤ 1000000; omega⟩
  replace hc := Lib.hid hc
  replace hsK := Lib.hid hsK
  replace htK := Lib.hid htK
  replace hfr := Lib.hid hfr
  replace hN := Lib.hid hN
  replace hx := Lib.hid hx
  clear hy hX
  go_enter Tryz.func77, Tryz.ntmps77
  go_upto_region 1 with fail
  have hk1 := Blk.new w [.int .i64 k, .string t, .int .i64 p, .bool c, .slice AK N cK, .slice AY mY cY] 66
  have hW1 := hB1 (.cells #[.int .i64 k, .string t, .int .i64 p, .bool c, .slice AK N cK, .slice AY mY cY] 66)
  generalize w.alloc (.cells #[.int .i64 k, .string t, .int .i64 p, .bool c, .slice AK N cK, .slice AY mY cY] 66) = w1 at hk1 hW1 ⊢
  generalize hyy : w.heap.size = y at hk1 ⊢
  replace hyy := Lib.hid hyy
  have y4 := hk1.cell (i := 4) rfl
  have yl := hk1.lt
  have hW0 : Hid (Below w.heap.size w w1 ∧ Blk w1 y [.int .i64 k, .string t, .int .i64 p, .bool c, .slice AK N cK, .slice AY mY cY] 66) := Lib.hid ⟨hW1, hk1⟩
  clear hk1 hW1 hB1
  go_wp2
  go_loopw [7, 14] (fun ov iv wr => ∃ q n : Nat, q ≤ N ∧ ov = .int .i64 (n : Int) ∧ iv = .int .i64 (q : Int) ∧ Hid (parF (K.drop q) n = X ∧ n + byF (K.drop q) ≤ 1000000) ∧ Hid (Below w.heap.size w wr ∧ Blk wr y [.int .i64 k, .string t, .int .i64 p, .bool c, .slice AK N cK, .slice AY mY cY] 66)) (fun _ iv _ => N - (intOf iv).toNat)
  case atStart => exact ⟨0, 0, Nat.zero_le _, rfl, rfl, hI0, hW0⟩
  case round =>
    clear hW0 hI0 y4 yl
    obtain ⟨q, n, hq, rfl, rfl, hI, hW⟩ := hrel
    by_cases hlt : q < N
    · have hq1 : (0 : Int) ≤ (q : Int) := by omega
      have hq2 : (q : Int) < (N : Int) := by omega
      obtain ⟨B, o, rfl, hBl, hrw⟩ := hsK.out.2.2 (by rw [hN.out]; omega)
      have hrd := rw_drop q htK.out (by rw [hN.out]; omega) hrw
      rw [show szT 1 = 6 from rfl] at hrd
      have htd := ty_drop q htK.out
      have hpd : 0 < (K.drop q).len := by rw [drop_len, hN.out]; omega
      have hnx := drop_tl q K
      obtain ⟨k2, t2, p2, c2, K2, Y2, r2, hd, _⟩ := at_piece htd hpd
      have hI2 := hI.out
      rw [hd] at hrd hnx hI2
      have hnx2 : r2 = K.drop (q + 1) := hnx
      obtain ⟨e0', e1', e2', e3', ⟨AK2, cK2, e4', _⟩, ⟨AY2, cY2, e5', _⟩, _⟩ := rw_piece.1 hrd
      have hbr := hfr.out.trans (hW.out.1.mono hfr.out.size)
      have e0 := cell_below hbr hBl e0'
      have e1 := cell_below hbr hBl e1'
      have e2 := cell_below hbr hBl e2'
      have e3 := cell_below hbr hBl e3'
      have e4 := cell_below hbr hBl e4'
      have e5 := cell_below hbr hBl e5'
      have hl2 := Nat.lt_of_lt_of_le hBl hbr.size
      generalize K2.len = mK2 at e4
      generalize Y2.len = mY2 at e5
      have hI3 : (if k2 = 1 then (match parL t2.data.toList n with | none => none | some m => parF (K.drop (q + 1)) m) else parF (K.drop (q + 1)) n) = X ∧ n + t2.size + byF (K.drop (q + 1)) ≤ 1000000 := ⟨by rw [← hnx2]; exact hI2.1, by have := hI2.2; simp only [byF] at this; rw [hnx2] at this; omega⟩
      have bA := Blk.new wr [.int .i64 k2, .string t2, .int .i64 p2, .bool c2, .slice AK2 mK2 cK2, .slice AY2 mY2 cY2] 66
      have hbA := (Below.refl wr.heap.size wr).alloc (Nat.le_refl _) (.cells #[.int .i64 k2, .string t2, .int .i64 p2, .bool c2, .slice AK2 mK2 cK2, .slice AY2 mY2 cY2] 66)
      have hWA : Hid (Below w.heap.size w _ ∧ Blk _ y _ _) := Lib.hid ⟨hW.out.1.trans (hbA.mono hW.out.1.size), (hbA.block y hW.out.2.lt).trans hW.out.2⟩
      clear hrw hrd htd hpd hnx hd hI2 hnx2 e0' e1' e2' e3' e4' e5' hbr hI hW hbA hBl
      replace bA := Lib.hid bA
      replace hI3 := Lib.hid hI3
      go_upto_region 5 with fail
      clear e0 e1 e2 e3 e4 e5 hl2
      generalize wr.alloc (.cells #[.int .i64 k2, .string t2, .int .i64 p2, .bool c2, .slice AK2 mK2 cK2, .slice AY2 mY2 cY2] 66) = wA at bA hWA ⊢
      generalize wr.heap.size = z at bA ⊢
      have z0 := bA.out.cell (i := 0) rfl
      have z1 := bA.out.cell (i := 1) rfl
      have zl := bA.out.lt
      clear bA
      by_cases hk : k2 = 1
      · subst hk
        have hsz : t2.size ≤ 1000000 := by have := hI3.out.2; omega
        have hJ0 : Hid (parL (t2.data.toList.drop 0) n = parL t2.data.toList n ∧ n + (t2.size - 0) + byF (K.drop (q + 1)) ≤ 1000000) := Lib.hid ⟨rfl, by have := hI3.out.2; omega⟩
        obtain ⟨Z, hZ⟩ : ∃ Z, parL t2.data.toList n = Z := ⟨_, rfl⟩
        rw [hZ] at hJ0 hI3
        clear hZ
        go_wp2
        go_loopw [7, 24] (fun ov iv wr => ∃ i n : Nat, i ≤ t2.size ∧ ov = .int .i64 (n : Int) ∧ iv = .int .i64 (i : Int) ∧ Hid (parL (t2.data.toList.drop i) n = Z ∧ n + (t2.size - i) + byF (K.drop (q + 1)) ≤ 1000000) ∧ Hid (wr = wA)) (fun _ iv _ => t2.size - (intOf iv).toNat)
        case atStart => exact ⟨0, n, Nat.zero_le _, rfl, rfl, hJ0, Lib.hid rfl⟩
        case round =>
          clear hJ0
          obtain ⟨i, n1, hi, rfl, rfl, hJ, hwr⟩ := hrel
          obtain rfl := hwr.out
          clear hwr
          by_cases hlt2 : i < t2.size
          · have hi1 : (0 : Int) ≤ (i : Int) := by omega
            have hi2 : (i : Int) < (t2.size : Int) := by omega
            obtain ⟨b, hb⟩ : ∃ b, t2[i]'hlt2 = b := ⟨_, rfl⟩
            have hst := par_step (n := n1) hlt2 hb
            have hJ2 := hJ.out
            rw [hst] at hJ2
            have hn9 : (n1 : Int) ≤ 1000000 := by have := hJ2.2; omega
            have hn8 : (0 : Int) ≤ (n1 : Int) := by omega
            clear hst hJ
            by_cases h40 : b.toNat = 40
            · have g1 : ((b.toNat : Int) == 40) = true := by simp [h40]
              rw [if_pos h40] at hJ2
              have hw1 : IntKind.i64.wrap ((n1 : Int) + 1) = (n1 : Int) + 1 := by rw [IntKind.wrap_i64]; omega
              have hge : ¬ (n1 : Int) + 1 < 0 := by omega
              have hJ3 : Hid (parL (t2.data.toList.drop (i + 1)) (n1 + 1) = Z ∧ (n1 + 1) + (t2.size - (i + 1)) + byF (K.drop (q + 1)) ≤ 1000000) := Lib.hid ⟨hJ2.1, by have := hJ2.2; omega⟩
              clear hJ2
              go_wp2
              go_roundw
              case rel => exact ⟨i + 1, n1 + 1, by omega, by go_num, by go_num, hJ3, Lib.hid trivial⟩
              case measure => simp [intOf]; omega
            · rw [if_neg h40] at hJ2
              have g1 : ((b.toNat : Int) == 40) = false := beq_eq_false_iff_ne.2 (by omega)
              by_cases h41 : b.toNat = 41
              · have g2 : ((b.toNat : Int) == 41) = true := by simp [h41]
                rw [if_pos h41] at hJ2
                cases n1 with
                | zero =>
                  have hZ : none = Z := hJ2.1
                  have hX : X = none := by have := hI3.out.1; rw [if_pos trivial, ← hZ] at this; exact this.symm
                  have hxf : false = x := by rw [← hx.out, hX]; rfl
                  subst hxf
                  clear hJ2 hX hZ
                  go_wp2
                  go_ret
                  exact ⟨rfl, hWA.out.1⟩
                | succ n2 =>
                  have hJ3 : Hid (parL (t2.data.toList.drop (i + 1)) n2 = Z ∧ n2 + (t2.size - (i + 1)) + byF (K.drop (q + 1)) ≤ 1000000) := Lib.hid ⟨hJ2.1, by have := hJ2.2; omega⟩
                  have hw1 : IntKind.i64.wrap (((n2 + 1 : Nat) : Int) - 1) = (n2 : Int) := by rw [IntKind.wrap_i64]; omega
                  have hw2 : ((n2 + 1 : Nat) : Int) - 1 = (n2 : Int) := by omega
                  have hge : ¬ (n2 : Int) < 0 := by omega
                  clear hJ2
                  go_wp2
                  go_roundw
                  case rel => exact ⟨i + 1, n2, by omega, by go_num, by go_num, hJ3, Lib.hid trivial⟩
                  case measure => simp [intOf]; omega
              · rw [if_neg h41] at hJ2
                have g2 : ((b.toNat : Int) == 41) = false := beq_eq_false_iff_ne.2 (by omega)
                have hge : ¬ (n1 : Int) < 0 := by omega
                have hJ3 : Hid (parL (t2.data.toList.drop (i + 1)) n1 = Z ∧ n1 + (t2.size - (i + 1)) + byF (K.drop (q + 1)) ≤ 1000000) := Lib.hid ⟨hJ2.1, by have := hJ2.2; omega⟩
                clear hJ2
                go_wp2
                go_roundw
                case rel => exact ⟨i + 1, n1, by omega, by go_num, by go_num, hJ3, Lib.hid trivial⟩
                case measure => simp [intOf]; omega
          · obtain rfl : i = t2.size := by omega
            have hq3 : ¬ (t2.size : Int) < (t2.size : Int) := by omega
            have hJ2 := hJ.out
            rw [List.drop_of_length_le (by rw [← Lib.size_eq]; omega)] at hJ2
            have hZ : some n1 = Z := hJ2.1
            have hI4 : Hid (parF (K.drop (q + 1)) n1 = X ∧ n1 + byF (K.drop (q + 1)) ≤ 1000000) := Lib.hid ⟨by have := hI3.out.1; rw [if_pos trivial, ← hZ] at this; exact this, by have := hJ2.2; omega⟩
            clear hJ hJ2 hZ hI3
            go_wp2
            go_roundw
            case rel => exact ⟨q + 1, n1, by omega, rfl, by go_num, hI4, hWA⟩
            case measure => simp [intOf]; omega
      · have gk : (k2 != 1) = true := by simp [hk]
        have hI4 : Hid (parF (K.drop (q + 1)) n = X ∧ n + byF (K.drop (q + 1)) ≤ 1000000) := Lib.hid ⟨by have := hI3.out.1; rwa [if_neg hk] at this, by have := hI3.out.2; omega⟩
        clear hI3
        go_wp2
        go_roundw
        case rel => exact ⟨q + 1, n, by omega, rfl, by go_num, hI4, hWA⟩
        case measure => simp [intOf]; omega
    · obtain rfl : q = N := by omega
      have hq3 : ¬ (q : Int) < (q : Int) := by omega
      have hI2 := hI.out
      rw [drop_end K hN.out.symm] at hI2
      have hX : some n = X := hI2.1
      have y4 := hW.out.2.cell (i := 4) rfl
      have yl := hW.out.2.lt
      have hc1 := hc.out wr hW.out.1
      have hxx : (decide (n = 0) && u) = x := by rw [← hx.out, ← hX]; simp
      clear hc hx hI hI2 hX
      by_cases hn0 : n = 0
      · subst hn0
        obtain rfl : u = x := by rw [← hxx]; simp
        clear hxx
        go_wp2_with fail
        refine hc1.mono ?_
        rintro e w3 ⟨rfl, hb3⟩
        have hW3 := Lib.hid (hW.out.1.trans (hb3.mono hW.out.1.size))
        clear hc1 hb3 hW y4 yl
        go_wp2
        go_ret
        exact ⟨rfl, hW3.out⟩
      · obtain rfl : false = x := by rw [← hxx]; simp [hn0]
        have g0 : ((n : Int) == 0) = false := beq_eq_false_iff_ne.2 (by omega)
        clear hxx hc1
        go_wp2
        go_ret
        exact ⟨rfl, hW.out.1⟩
end
end Go.Proofs.YtmchfoedjajbdaaGreat
