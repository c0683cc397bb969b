/-
  trees.Same and trees.Words: whether two rows are the same. Conditions: none.
-/
import Derived.Test.YtmchfoedjajbdaaGreatZq11
set_option linter.unusedSimpArgs false
set_option linter.unusedVariables false
namespace Go.Proofs.YtmchfoedjajbdaaGreat
open Go Go.RowKit

theorem str_eqT {a b : ByteArray} (h : a = b) : (a.toList == b.toList) = true := by rw [h]; exact beq_self_eq_true _
theorem bytes_inj {a b : ByteArray} (h : a.data.toList = b.data.toList) : a = b := ByteArray.ext (Array.ext' h)
theorem str_neT {a b : ByteArray} (h : a ≠ b) : (a.toList == b.toList) = false := by
  rw [beq_eq_false_iff_ne]
  intro e
  rw [ByteArray.toList_eq, ByteArray.toList_eq] at e
  exact h (bytes_inj e)
theorem ElV.pos {W : World} {g : F} {v : Value} (h : ElV W g v) : 0 < g.len := by
  cases g with
  | nil => exact h.elim
  | _ => exact Nat.succ_pos _
theorem Slc.le {w : World} {A : Option Addr} {c : Nat} {f : F} (h : Slc w A c f) : f.len ≤ c ∧ c ≤ maxLen := ⟨h.1, h.2.1⟩
/-- What is asked of rows of no more than so much. -/
def SameOk (n : Nat) : Prop :=
  (∀ f, wt f < n → Ty f 0 → ∀ f' W A c A' c', Ty f' 0 → Slc W A c f → Slc W A' c' f' → Calls Tryz.prog 16 #[.slice A f.len c, .slice A' f'.len c'] W fun e w' => e = .returned (.bool (sameF f f')) ∧ Below W.heap.size W w') ∧
  (∀ f, wt f < n → Ty f 1 → ∀ f' W A c A' c', Ty f' 1 → Slc W A c f → Slc W A' c' f' → Calls Tryz.prog 18 #[.slice A f.len c, .slice A' f'.len c'] W fun e w' => e = .returned (.bool (sameF f f')) ∧ Below W.heap.size W w')
section
variable {n0 : Nat} {w : World} {A A' : Option Addr} {c c' : Nat} {f f' g g' : F}
set_option maxRecDepth 100000 in
theorem rows_word (hn : SameOk n0) (ht : Ty f 5) (ht' : Ty f' 5) (hw : wt f ≤ n0) (h : Slc w A c f) (h' : Slc w A' c' f') :
    Calls Tryz.prog 50 #[.slice A f.len c, .slice A' f'.len c', .func (.func 18) #[] #[]] w fun e w' => e = .returned (.bool (sameF f f')) ∧ Below w.heap.size w w' := by
  have hc := eqf_word ht ht' h h' (fun j hj W hb v v' hv hv' => by
    have h1 := ty_drop j ht
    have h2 := ty_drop j ht'
    have h3 := Nat.le_trans (wt_drop j f) hw
    have h4 := hv.pos
    have h5 := hv'.pos
    generalize f.drop j = g at *
    generalize f'.drop j = g' at *
    obtain ⟨x, r, rfl, htx, _⟩ := at_word h1 h4
    obtain ⟨x', r', rfl, htx', _⟩ := at_word h2 h5
    obtain ⟨Ax, cx, rfl, hsx⟩ := hv
    obtain ⟨Ax', cx', rfl, hsx'⟩ := hv'
    exact hn.2 x (by simp only [wt] at h3; omega) htx x' W Ax cx Ax' cx' htx' hsx hsx')
  generalize sameF f f' = X at hc ⊢
  generalize f.len = m at hc ⊢
  generalize f'.len = m' at hc ⊢
  go_enter Tryz.func50, Tryz.ntmps50
  go_wp2_with fail
  refine hc.mono ?_
  rintro e w' ⟨rfl, hb⟩
  clear hc
  go_wp2
  go_ret
  exact ⟨rfl, hb⟩
set_option maxRecDepth 100000 in
theorem rows_list (hn : SameOk n0) (ht : Ty f 6) (ht' : Ty f' 6) (hw : wt f ≤ n0) (h : Slc w A c f) (h' : Slc w A' c' f') :
    Calls Tryz.prog 53 #[.slice A f.len c, .slice A' f'.len c', .func (.func 16) #[] #[]] w fun e w' => e = .returned (.bool (sameF f f')) ∧ Below w.heap.size w w' := by
  have hc := eqf_list ht ht' h h' (fun j hj W hb v v' hv hv' => by
    have h1 := ty_drop j ht
    have h2 := ty_drop j ht'
    have h3 := Nat.le_trans (wt_drop j f) hw
    have h4 := hv.pos
    have h5 := hv'.pos
    generalize f.drop j = g at *
    generalize f'.drop j = g' at *
    obtain ⟨x, r, rfl, htx, _⟩ := at_list h1 h4
    obtain ⟨x', r', rfl, htx', _⟩ := at_list h2 h5
    obtain ⟨Ax, cx, rfl, hsx⟩ := hv
    obtain ⟨Ax', cx', rfl, hsx'⟩ := hv'
    exact hn.1 x (by simp only [wt] at h3; omega) htx x' W Ax cx Ax' cx' htx' hsx hsx')
  generalize sameF f f' = X at hc ⊢
  generalize f.len = m at hc ⊢
  generalize f'.len = m' at hc ⊢
  go_enter Tryz.func53, Tryz.ntmps53
  go_wp2_with fail
  refine hc.mono ?_
  rintro e w' ⟨rfl, hb⟩
  clear hc
  go_wp2
  go_ret
  exact ⟨rfl, hb⟩
set_option maxRecDepth 100000 in
set_option maxHeartbeats 4000000 in
theorem el_same_set (hn : SameOk n0) (ht : Ty g 2) (ht' : Ty g' 2) (hg : 0 < g.len) (hg' : 0 < g'.len) (hw : wt g ≤ n0) (w : World) (v v' : Value) (hv : ElV w g v) (hv' : ElV w g' v') :
    Calls Tryz.prog 49 #[v, v'] w fun e w' => e = .returned (.bool (sameH g g')) ∧ Below w.heap.size w w' := by
  obtain ⟨n, x, r, rfl, htx, _⟩ := at_set ht hg
  obtain ⟨n', x', r', rfl, htx', _⟩ := at_set ht' hg'
  obtain ⟨Ax, cx, rfl, hsx⟩ := hv
  obtain ⟨Ax', cx', rfl, hsx'⟩ := hv'
  simp only [wt] at hw
  have hcx := fun W (hb : Below w.heap.size w W) => hn.2 x (by omega) htx x' W Ax cx Ax' cx' htx' (hsx.below hb) (hsx'.below hb)
  obtain ⟨X, hX⟩ : ∃ X, (decide (n = n') && sameF x x') = X := ⟨_, rfl⟩
  show Calls _ _ _ _ (fun e w' => e = .returned (.bool (decide (n = n') && sameF x x')) ∧ _)
  rw [hX]
  have hmx := hsx.le
  have hmx' := hsx'.le
  generalize sameF x x' = Qx at hcx hX
  generalize x.len = mx at hcx hmx ⊢
  generalize x'.len = mx' at hcx hmx' ⊢
  unfold maxLen at hmx hmx'
  replace hcx := Lib.hid hcx
  clear hn hsx hsx' htx htx' hg hg' hw ht ht'
  have hbA : Below w.heap.size w (w.alloc (.cells #[.string n, .slice Ax mx cx] 50)) := (Below.refl _ w).alloc (Nat.le_refl _) _
  have bA : Blk (w.alloc (.cells #[.string n, .slice Ax mx cx] 50)) w.heap.size [.string n, .slice Ax mx cx] 50 := Blk.new w _ _
  obtain ⟨w1, hw1⟩ : ∃ w1, w.alloc (.cells #[.string n, .slice Ax mx cx] 50) = w1 := ⟨_, rfl⟩
  obtain ⟨y, hy⟩ : ∃ y, w.heap.size = y := ⟨_, rfl⟩
  rw [hw1] at hbA bA
  have hbC : Below w1.heap.size w1 (w1.alloc (.cells #[.string n', .slice Ax' mx' cx'] 50)) := (Below.refl _ w1).alloc (Nat.le_refl _) _
  have bC : Blk (w1.alloc (.cells #[.string n', .slice Ax' mx' cx'] 50)) w1.heap.size [.string n', .slice Ax' mx' cx'] 50 := Blk.new w1 _ _
  have bA2 := (hbC.block _ bA.lt).trans bA
  have hB := hbA.trans (hbC.mono hbA.size)
  obtain ⟨w2, hw2⟩ : ∃ w2, w1.alloc (.cells #[.string n', .slice Ax' mx' cx'] 50) = w2 := ⟨_, rfl⟩
  obtain ⟨z, hz⟩ : ∃ z, w1.heap.size = z := ⟨_, rfl⟩
  rw [hw2] at hB bC bA2
  rw [hz] at bC
  rw [hy] at bA2
  have hz2 : y + 1 = z := by rw [← hz, ← hw1, ← hy]; simp
  replace hz2 := Lib.hid hz2
  replace hB := Lib.hid hB
  replace bC := Lib.hid bC
  replace bA2 := Lib.hid (show Blk w2 y _ _ from bA2)
  clear hbA bA hbC
  replace hw1 := Lib.hid hw1
  replace hw2 := Lib.hid hw2
  replace hy := Lib.hid hy
  replace hz := Lib.hid hz
  replace hX := Lib.hid hX
  go_enter Tryz.func49, Tryz.ntmps49
  go_upto_region 1 with fail
  rw [hw1.out, hw2.out, hy.out]
  first | rw [hz.out] | rw [hz2.out]
  clear hw1 hw2 hy hz hz2
  by_cases hn : n = n'
  rotate_left
  · obtain rfl : X = false := by rw [← hX.out]; simp [hn]
    clear hX
    have qn := str_neT hn
    clear hn
    have y0 := bA2.out.cell (i := 0) rfl
    have z0 := bC.out.cell (i := 0) rfl
    have y1 := bA2.out.cell (i := 1) rfl
    have z1 := bC.out.cell (i := 1) rfl
    have yl := bA2.out.lt
    have zl := bC.out.lt
    go_wp2
    go_ret
    exact ⟨rfl, hB.out⟩
  have qn := str_eqT hn
  subst hn
  have y0 := bA2.out.cell (i := 0) rfl
  have z0 := bC.out.cell (i := 0) rfl
  have y1 := bA2.out.cell (i := 1) rfl
  have z1 := bC.out.cell (i := 1) rfl
  have yl := bA2.out.lt
  have zl := bC.out.lt
  have hc := hcx.out _ hB.out
  go_wp2_with fail
  refine hc.mono ?_
  rintro e w4 ⟨rfl, hb4⟩
  have hB1 : Hid (Below w.heap.size w w4) := Lib.hid (hB.out.trans (hb4.mono hB.out.size))
  clear y0 z0 y1 z1 yl zl
  replace bA2 := Lib.hid (show Blk w4 y _ _ from (hb4.block y bA2.out.lt).trans bA2.out)
  replace bC := Lib.hid (show Blk w4 z _ _ from (hb4.block z bC.out.lt).trans bC.out)
  clear hc hb4
  obtain rfl : X = Qx := by rw [← hX.out]; simp
  clear hX
  go_wp2
  go_ret
  exact ⟨rfl, hB1.out⟩
set_option maxRecDepth 100000 in
theorem rows_set (hn : SameOk n0) (ht : Ty f 2) (ht' : Ty f' 2) (hw : wt f ≤ n0) (h : Slc w A c f) (h' : Slc w A' c' f') :
    Calls Tryz.prog 48 #[.slice A f.len c, .slice A' f'.len c', .func (.func 49) #[] #[]] w fun e w' => e = .returned (.bool (sameF f f')) ∧ Below w.heap.size w w' := by
  have hc := eqf_set ht ht' h h' (fun j hj W hb v v' hv hv' => el_same_set hn (ty_drop j ht) (ty_drop j ht') hv.pos hv'.pos (Nat.le_trans (wt_drop j f) hw) W v v' hv hv')
  generalize sameF f f' = X at hc ⊢
  generalize f.len = m at hc ⊢
  generalize f'.len = m' at hc ⊢
  go_enter Tryz.func48, Tryz.ntmps48
  go_wp2_with fail
  refine hc.mono ?_
  rintro e w' ⟨rfl, hb⟩
  clear hc
  go_wp2
  go_ret
  exact ⟨rfl, hb⟩
set_option maxRecDepth 100000 in
set_option maxHeartbeats 4000000 in
theorem el_same_redir (hn : SameOk n0) (ht : Ty g 3) (ht' : Ty g' 3) (hg : 0 < g.len) (hg' : 0 < g'.len) (hw : wt g ≤ n0) (w : World) (v v' : Value) (hv : ElV w g v) (hv' : ElV w g' v') :
    Calls Tryz.prog 52 #[v, v'] w fun e w' => e = .returned (.bool (sameH g g')) ∧ Below w.heap.size w w' := by
  obtain ⟨d, k, x, r, rfl, _, _, htx, _⟩ := at_redir ht hg
  obtain ⟨d', k', x', r', rfl, _, _, htx', _⟩ := at_redir ht' hg'
  obtain ⟨Ax, cx, rfl, hsx⟩ := hv
  obtain ⟨Ax', cx', rfl, hsx'⟩ := hv'
  simp only [wt] at hw
  have hcx := fun W (hb : Below w.heap.size w W) => hn.2 x (by omega) htx x' W Ax cx Ax' cx' htx' (hsx.below hb) (hsx'.below hb)
  obtain ⟨X, hX⟩ : ∃ X, (decide (d = d') && decide (k = k') && sameF x x') = X := ⟨_, rfl⟩
  show Calls _ _ _ _ (fun e w' => e = .returned (.bool (decide (d = d') && decide (k = k') && sameF x x')) ∧ _)
  rw [hX]
  have hmx := hsx.le
  have hmx' := hsx'.le
  generalize sameF x x' = Qx at hcx hX
  generalize x.len = mx at hcx hmx ⊢
  generalize x'.len = mx' at hcx hmx' ⊢
  unfold maxLen at hmx hmx'
  replace hcx := Lib.hid hcx
  clear hn hsx hsx' htx htx' hg hg' hw ht ht'
  have hbA : Below w.heap.size w (w.alloc (.cells #[.int .i64 d, .int .i64 k, .slice Ax mx cx] 69)) := (Below.refl _ w).alloc (Nat.le_refl _) _
  have bA : Blk (w.alloc (.cells #[.int .i64 d, .int .i64 k, .slice Ax mx cx] 69)) w.heap.size [.int .i64 d, .int .i64 k, .slice Ax mx cx] 69 := Blk.new w _ _
  obtain ⟨w1, hw1⟩ : ∃ w1, w.alloc (.cells #[.int .i64 d, .int .i64 k, .slice Ax mx cx] 69) = w1 := ⟨_, rfl⟩
  obtain ⟨y, hy⟩ : ∃ y, w.heap.size = y := ⟨_, rfl⟩
  rw [hw1] at hbA bA
  have hbC : Below w1.heap.size w1 (w1.alloc (.cells #[.int .i64 d', .int .i64 k', .slice Ax' mx' cx'] 69)) := (Below.refl _ w1).alloc (Nat.le_refl _) _
  have bC : Blk (w1.alloc (.cells #[.int .i64 d', .int .i64 k', .slice Ax' mx' cx'] 69)) w1.heap.size [.int .i64 d', .int .i64 k', .slice Ax' mx' cx'] 69 := Blk.new w1 _ _
  have bA2 := (hbC.block _ bA.lt).trans bA
  have hB := hbA.trans (hbC.mono hbA.size)
  obtain ⟨w2, hw2⟩ : ∃ w2, w1.alloc (.cells #[.int .i64 d', .int .i64 k', .slice Ax' mx' cx'] 69) = w2 := ⟨_, rfl⟩
  obtain ⟨z, hz⟩ : ∃ z, w1.heap.size = z := ⟨_, rfl⟩
  rw [hw2] at hB bC bA2
  rw [hz] at bC
  rw [hy] at bA2
  have hz2 : y + 1 = z := by rw [← hz, ← hw1, ← hy]; simp
  replace hz2 := Lib.hid hz2
  replace hB := Lib.hid hB
  replace bC := Lib.hid bC
  replace bA2 := Lib.hid (show Blk w2 y _ _ from bA2)
  clear hbA bA hbC
  replace hw1 := Lib.hid hw1
  replace hw2 := Lib.hid hw2
  replace hy := Lib.hid hy
  replace hz := Lib.hid hz
  replace hX := Lib.hid hX
  go_enter Tryz.func52, Tryz.ntmps52
  go_upto_region 1 with fail
  rw [hw1.out, hw2.out, hy.out]
  first | rw [hz.out] | rw [hz2.out]
  clear hw1 hw2 hy hz hz2
  by_cases hd : d = d'
  rotate_left
  · obtain rfl : X = false := by rw [← hX.out]; simp [hd]
    clear hX
    have qd : (d == d') = false := beq_eq_false_iff_ne.2 hd
    clear hd
    have y0 := bA2.out.cell (i := 0) rfl
    have z0 := bC.out.cell (i := 0) rfl
    have y1 := bA2.out.cell (i := 1) rfl
    have z1 := bC.out.cell (i := 1) rfl
    have y2 := bA2.out.cell (i := 2) rfl
    have z2 := bC.out.cell (i := 2) rfl
    have yl := bA2.out.lt
    have zl := bC.out.lt
    go_wp2
    go_ret
    exact ⟨rfl, hB.out⟩
  subst hd
  have qd : (d == d) = true := beq_self_eq_true _
  by_cases hk : k = k'
  rotate_left
  · obtain rfl : X = false := by rw [← hX.out]; simp [hk]
    clear hX
    have qk : (k == k') = false := beq_eq_false_iff_ne.2 hk
    clear hk
    have y0 := bA2.out.cell (i := 0) rfl
    have z0 := bC.out.cell (i := 0) rfl
    have y1 := bA2.out.cell (i := 1) rfl
    have z1 := bC.out.cell (i := 1) rfl
    have y2 := bA2.out.cell (i := 2) rfl
    have z2 := bC.out.cell (i := 2) rfl
    have yl := bA2.out.lt
    have zl := bC.out.lt
    go_wp2
    go_ret
    exact ⟨rfl, hB.out⟩
  subst hk
  have qk : (k == k) = true := beq_self_eq_true _
  have y0 := bA2.out.cell (i := 0) rfl
  have z0 := bC.out.cell (i := 0) rfl
  have y1 := bA2.out.cell (i := 1) rfl
  have z1 := bC.out.cell (i := 1) rfl
  have y2 := bA2.out.cell (i := 2) rfl
  have z2 := bC.out.cell (i := 2) rfl
  have yl := bA2.out.lt
  have zl := bC.out.lt
  have hc := hcx.out _ hB.out
  go_wp2_with fail
  refine hc.mono ?_
  rintro e w5 ⟨rfl, hb5⟩
  have hB2 : Hid (Below w.heap.size w w5) := Lib.hid (hB.out.trans (hb5.mono hB.out.size))
  clear y0 z0 y1 z1 y2 z2 yl zl
  replace bA2 := Lib.hid (show Blk w5 y _ _ from (hb5.block y bA2.out.lt).trans bA2.out)
  replace bC := Lib.hid (show Blk w5 z _ _ from (hb5.block z bC.out.lt).trans bC.out)
  clear hc hb5
  obtain rfl : X = Qx := by rw [← hX.out]; simp
  clear hX
  go_wp2
  go_ret
  exact ⟨rfl, hB2.out⟩
set_option maxRecDepth 100000 in
theorem rows_redir (hn : SameOk n0) (ht : Ty f 3) (ht' : Ty f' 3) (hw : wt f ≤ n0) (h : Slc w A c f) (h' : Slc w A' c' f') :
    Calls Tryz.prog 51 #[.slice A f.len c, .slice A' f'.len c', .func (.func 52) #[] #[]] w fun e w' => e = .returned (.bool (sameF f f')) ∧ Below w.heap.size w w' := by
  have hc := eqf_redir ht ht' h h' (fun j hj W hb v v' hv hv' => el_same_redir hn (ty_drop j ht) (ty_drop j ht') hv.pos hv'.pos (Nat.le_trans (wt_drop j f) hw) W v v' hv hv')
  generalize sameF f f' = X at hc ⊢
  generalize f.len = m at hc ⊢
  generalize f'.len = m' at hc ⊢
  go_enter Tryz.func51, Tryz.ntmps51
  go_wp2_with fail
  refine hc.mono ?_
  rintro e w' ⟨rfl, hb⟩
  clear hc
  go_wp2
  go_ret
  exact ⟨rfl, hb⟩
set_option maxRecDepth 100000 in
set_option maxHeartbeats 4000000 in
theorem el_same_case (hn : SameOk n0) (ht : Ty g 4) (ht' : Ty g' 4) (hg : 0 < g.len) (hg' : 0 < g'.len) (hw : wt g ≤ n0) (w : World) (v v' : Value) (hv : ElV w g v) (hv' : ElV w g' v') :
    Calls Tryz.prog 55 #[v, v'] w fun e w' => e = .returned (.bool (sameH g g')) ∧ Below w.heap.size w w' := by
  obtain ⟨W, Y, r, rfl, htW, htY, _⟩ := at_case ht hg
  obtain ⟨W', Y', r', rfl, htW', htY', _⟩ := at_case ht' hg'
  obtain ⟨AW, cW, AY, cY, rfl, hsW, hsY⟩ := hv
  obtain ⟨AW', cW', AY', cY', rfl, hsW', hsY'⟩ := hv'
  simp only [wt] at hw
  have hcW := fun W (hb : Below w.heap.size w W) => rows_word hn htW htW' (by omega) (hsW.below hb) (hsW'.below hb)
  have hcY := fun W (hb : Below w.heap.size w W) => hn.1 Y (by omega) htY Y' W AY cY AY' cY' htY' (hsY.below hb) (hsY'.below hb)
  obtain ⟨X, hX⟩ : ∃ X, (sameF W W' && sameF Y Y') = X := ⟨_, rfl⟩
  show Calls _ _ _ _ (fun e w' => e = .returned (.bool (sameF W W' && sameF Y Y')) ∧ _)
  rw [hX]
  have hmW := hsW.le
  have hmW' := hsW'.le
  generalize sameF W W' = QW at hcW hX
  generalize W.len = mW at hcW hmW ⊢
  generalize W'.len = mW' at hcW hmW' ⊢
  unfold maxLen at hmW hmW'
  replace hcW := Lib.hid hcW
  have hmY := hsY.le
  have hmY' := hsY'.le
  generalize sameF Y Y' = QY at hcY hX
  generalize Y.len = mY at hcY hmY ⊢
  generalize Y'.len = mY' at hcY hmY' ⊢
  unfold maxLen at hmY hmY'
  replace hcY := Lib.hid hcY
  clear hn hsW hsW' htW htW' hsY hsY' htY htY' hg hg' hw ht ht'
  have hbA : Below w.heap.size w (w.alloc (.cells #[.slice AW mW cW, .slice AY mY cY] 45)) := (Below.refl _ w).alloc (Nat.le_refl _) _
  have bA : Blk (w.alloc (.cells #[.slice AW mW cW, .slice AY mY cY] 45)) w.heap.size [.slice AW mW cW, .slice AY mY cY] 45 := Blk.new w _ _
  obtain ⟨w1, hw1⟩ : ∃ w1, w.alloc (.cells #[.slice AW mW cW, .slice AY mY cY] 45) = w1 := ⟨_, rfl⟩
  obtain ⟨y, hy⟩ : ∃ y, w.heap.size = y := ⟨_, rfl⟩
  rw [hw1] at hbA bA
  have hbC : Below w1.heap.size w1 (w1.alloc (.cells #[.slice AW' mW' cW', .slice AY' mY' cY'] 45)) := (Below.refl _ w1).alloc (Nat.le_refl _) _
  have bC : Blk (w1.alloc (.cells #[.slice AW' mW' cW', .slice AY' mY' cY'] 45)) w1.heap.size [.slice AW' mW' cW', .slice AY' mY' cY'] 45 := Blk.new w1 _ _
  have bA2 := (hbC.block _ bA.lt).trans bA
  have hB := hbA.trans (hbC.mono hbA.size)
  obtain ⟨w2, hw2⟩ : ∃ w2, w1.alloc (.cells #[.slice AW' mW' cW', .slice AY' mY' cY'] 45) = w2 := ⟨_, rfl⟩
  obtain ⟨z, hz⟩ : ∃ z, w1.heap.size = z := ⟨_, rfl⟩
  rw [hw2] at hB bC bA2
  rw [hz] at bC
  rw [hy] at bA2
  have hz2 : y + 1 = z := by rw [← hz, ← hw1, ← hy]; simp
  replace hz2 := Lib.hid hz2
  replace hB := Lib.hid hB
  replace bC := Lib.hid bC
  replace bA2 := Lib.hid (show Blk w2 y _ _ from bA2)
  clear hbA bA hbC
  replace hw1 := Lib.hid hw1
  replace hw2 := Lib.hid hw2
  replace hy := Lib.hid hy
  replace hz := Lib.hid hz
  replace hX := Lib.hid hX
  go_enter Tryz.func55, Tryz.ntmps55
  go_upto_region 1 with fail
  rw [hw1.out, hw2.out, hy.out]
  first | rw [hz.out] | rw [hz2.out]
  clear hw1 hw2 hy hz hz2
  have y0 := bA2.out.cell (i := 0) rfl
  have z0 := bC.out.cell (i := 0) rfl
  have y1 := bA2.out.cell (i := 1) rfl
  have z1 := bC.out.cell (i := 1) rfl
  have yl := bA2.out.lt
  have zl := bC.out.lt
  have hc := hcW.out _ hB.out
  go_wp2_with fail
  refine hc.mono ?_
  rintro e w3 ⟨rfl, hb3⟩
  have hB0 : Hid (Below w.heap.size w w3) := Lib.hid (hB.out.trans (hb3.mono hB.out.size))
  clear y0 z0 y1 z1 yl zl
  replace bA2 := Lib.hid (show Blk w3 y _ _ from (hb3.block y bA2.out.lt).trans bA2.out)
  replace bC := Lib.hid (show Blk w3 z _ _ from (hb3.block z bC.out.lt).trans bC.out)
  clear hc hb3
  have y0 := bA2.out.cell (i := 0) rfl
  have z0 := bC.out.cell (i := 0) rfl
  have y1 := bA2.out.cell (i := 1) rfl
  have z1 := bC.out.cell (i := 1) rfl
  have yl := bA2.out.lt
  have zl := bC.out.lt
  cases QW with
  | false =>
    obtain rfl : X = false := by rw [← hX.out]; simp
    clear hX
    go_wp2
    go_ret
    exact ⟨rfl, hB0.out⟩
  | true =>
    have hc := hcY.out _ hB0.out
    go_wp2_with fail
    refine hc.mono ?_
    rintro e w4 ⟨rfl, hb4⟩
    have hB1 : Hid (Below w.heap.size w w4) := Lib.hid (hB0.out.trans (hb4.mono hB0.out.size))
    clear y0 z0 y1 z1 yl zl
    replace bA2 := Lib.hid (show Blk w4 y _ _ from (hb4.block y bA2.out.lt).trans bA2.out)
    replace bC := Lib.hid (show Blk w4 z _ _ from (hb4.block z bC.out.lt).trans bC.out)
    clear hc hb4
    obtain rfl : X = QY := by rw [← hX.out]; simp
    clear hX
    go_wp2
    go_ret
    exact ⟨rfl, hB1.out⟩
set_option maxRecDepth 100000 in
theorem rows_case (hn : SameOk n0) (ht : Ty f 4) (ht' : Ty f' 4) (hw : wt f ≤ n0) (h : Slc w A c f) (h' : Slc w A' c' f') :
    Calls Tryz.prog 54 #[.slice A f.len c, .slice A' f'.len c', .func (.func 55) #[] #[]] w fun e w' => e = .returned (.bool (sameF f f')) ∧ Below w.heap.size w w' := by
  have hc := eqf_case ht ht' h h' (fun j hj W hb v v' hv hv' => el_same_case hn (ty_drop j ht) (ty_drop j ht') hv.pos hv'.pos (Nat.le_trans (wt_drop j f) hw) W v v' hv hv')
  generalize sameF f f' = X at hc ⊢
  generalize f.len = m at hc ⊢
  generalize f'.len = m' at hc ⊢
  go_enter Tryz.func54, Tryz.ntmps54
  go_wp2_with fail
  refine hc.mono ?_
  rintro e w' ⟨rfl, hb⟩
  clear hc
  go_wp2
  go_ret
  exact ⟨rfl, hb⟩
set_option maxRecDepth 100000 in
set_option maxHeartbeats 4000000 in
theorem el_same_piece (hn : SameOk n0) (ht : Ty g 1) (ht' : Ty g' 1) (hg : 0 < g.len) (hg' : 0 < g'.len) (hw : wt g ≤ n0) (w : World) (v v' : Value) (hv : ElV w g v) (hv' : ElV w g' v') :
    Calls Tryz.prog 36 #[v, v'] w fun e w' => e = .returned (.bool (sameH g g')) ∧ Below w.heap.size w w' := by
  obtain ⟨k, t, p, c, K, Y, r, rfl, _, _, htK, htY, _⟩ := at_piece ht hg
  obtain ⟨k', t', p', c', K', Y', r', rfl, _, _, htK', htY', _⟩ := at_piece ht' hg'
  obtain ⟨AK, cK, AY, cY, rfl, hsK, hsY⟩ := hv
  obtain ⟨AK', cK', AY', cY', rfl, hsK', hsY'⟩ := hv'
  simp only [wt] at hw
  have hcK := fun W (hb : Below w.heap.size w W) => hn.2 K (by omega) htK K' W AK cK AK' cK' htK' (hsK.below hb) (hsK'.below hb)
  have hcY := fun W (hb : Below w.heap.size w W) => hn.1 Y (by omega) htY Y' W AY cY AY' cY' htY' (hsY.below hb) (hsY'.below hb)
  obtain ⟨X, hX⟩ : ∃ X, (decide (k = k') && decide (t = t') && decide (p = p') && (c == c') && sameF K K' && sameF Y Y') = X := ⟨_, rfl⟩
  show Calls _ _ _ _ (fun e w' => e = .returned (.bool (decide (k = k') && decide (t = t') && decide (p = p') && (c == c') && sameF K K' && sameF Y Y')) ∧ _)
  rw [hX]
  have hmK := hsK.le
  have hmK' := hsK'.le
  generalize sameF K K' = QK at hcK hX
  generalize K.len = mK at hcK hmK ⊢
  generalize K'.len = mK' at hcK hmK' ⊢
  unfold maxLen at hmK hmK'
  replace hcK := Lib.hid hcK
  have hmY := hsY.le
  have hmY' := hsY'.le
  generalize sameF Y Y' = QY at hcY hX
  generalize Y.len = mY at hcY hmY ⊢
  generalize Y'.len = mY' at hcY hmY' ⊢
  unfold maxLen at hmY hmY'
  replace hcY := Lib.hid hcY
  clear hn hsK hsK' htK htK' hsY hsY' htY htY' hg hg' hw ht ht'
  have hbA : Below w.heap.size w (w.alloc (.cells #[.int .i64 k, .string t, .int .i64 p, .bool c, .slice AK mK cK, .slice AY mY cY] 66)) := (Below.refl _ w).alloc (Nat.le_refl _) _
  have bA : Blk (w.alloc (.cells #[.int .i64 k, .string t, .int .i64 p, .bool c, .slice AK mK cK, .slice AY mY cY] 66)) w.heap.size [.int .i64 k, .string t, .int .i64 p, .bool c, .slice AK mK cK, .slice AY mY cY] 66 := Blk.new w _ _
  obtain ⟨w1, hw1⟩ : ∃ w1, w.alloc (.cells #[.int .i64 k, .string t, .int .i64 p, .bool c, .slice AK mK cK, .slice AY mY cY] 66) = w1 := ⟨_, rfl⟩
  obtain ⟨y, hy⟩ : ∃ y, w.heap.size = y := ⟨_, rfl⟩
  rw [hw1] at hbA bA
  have hbC : Below w1.heap.size w1 (w1.alloc (.cells #[.int .i64 k', .string t', .int .i64 p', .bool c', .slice AK' mK' cK', .slice AY' mY' cY'] 66)) := (Below.refl _ w1).alloc (Nat.le_refl _) _
  have bC : Blk (w1.alloc (.cells #[.int .i64 k', .string t', .int .i64 p', .bool c', .slice AK' mK' cK', .slice AY' mY' cY'] 66)) w1.heap.size [.int .i64 k', .string t', .int .i64 p', .bool c', .slice AK' mK' cK', .slice AY' mY' cY'] 66 := Blk.new w1 _ _
  have bA2 := (hbC.block _ bA.lt).trans bA
  have hB := hbA.trans (hbC.mono hbA.size)
  obtain ⟨w2, hw2⟩ : ∃ w2, w1.alloc (.cells #[.int .i64 k', .string t', .int .i64 p', .bool c', .slice AK' mK' cK', .slice AY' mY' cY'] 66) = w2 := ⟨_, rfl⟩
  obtain ⟨z, hz⟩ : ∃ z, w1.heap.size = z := ⟨_, rfl⟩
  rw [hw2] at hB bC bA2
  rw [hz] at bC
  rw [hy] at bA2
  have hz2 : y + 1 = z := by rw [← hz, ← hw1, ← hy]; simp
  replace hz2 := Lib.hid hz2
  replace hB := Lib.hid hB
  replace bC := Lib.hid bC
  replace bA2 := Lib.hid (show Blk w2 y _ _ from bA2)
  clear hbA bA hbC
  replace hw1 := Lib.hid hw1
  replace hw2 := Lib.hid hw2
  replace hy := Lib.hid hy
  replace hz := Lib.hid hz
  replace hX := Lib.hid hX
  go_enter Tryz.func36, Tryz.ntmps36
  go_upto_region 1 with fail
  rw [hw1.out, hw2.out, hy.out]
  first | rw [hz.out] | rw [hz2.out]
  clear hw1 hw2 hy hz hz2
  by_cases hk : k = k'
  rotate_left
  · obtain rfl : X = false := by rw [← hX.out]; simp [hk]
    clear hX
    have qk : (k == k') = false := beq_eq_false_iff_ne.2 hk
    clear hk
    have y0 := bA2.out.cell (i := 0) rfl
    have z0 := bC.out.cell (i := 0) rfl
    have y1 := bA2.out.cell (i := 1) rfl
    have z1 := bC.out.cell (i := 1) rfl
    have y2 := bA2.out.cell (i := 2) rfl
    have z2 := bC.out.cell (i := 2) rfl
    have y3 := bA2.out.cell (i := 3) rfl
    have z3 := bC.out.cell (i := 3) rfl
    have y4 := bA2.out.cell (i := 4) rfl
    have z4 := bC.out.cell (i := 4) rfl
    have y5 := bA2.out.cell (i := 5) rfl
    have z5 := bC.out.cell (i := 5) rfl
    have yl := bA2.out.lt
    have zl := bC.out.lt
    go_wp2
    go_ret
    exact ⟨rfl, hB.out⟩
  subst hk
  have qk : (k == k) = true := beq_self_eq_true _
  by_cases ht : t = t'
  rotate_left
  · obtain rfl : X = false := by rw [← hX.out]; simp [ht]
    clear hX
    have qt := str_neT ht
    clear ht
    have y0 := bA2.out.cell (i := 0) rfl
    have z0 := bC.out.cell (i := 0) rfl
    have y1 := bA2.out.cell (i := 1) rfl
    have z1 := bC.out.cell (i := 1) rfl
    have y2 := bA2.out.cell (i := 2) rfl
    have z2 := bC.out.cell (i := 2) rfl
    have y3 := bA2.out.cell (i := 3) rfl
    have z3 := bC.out.cell (i := 3) rfl
    have y4 := bA2.out.cell (i := 4) rfl
    have z4 := bC.out.cell (i := 4) rfl
    have y5 := bA2.out.cell (i := 5) rfl
    have z5 := bC.out.cell (i := 5) rfl
    have yl := bA2.out.lt
    have zl := bC.out.lt
    go_wp2
    go_ret
    exact ⟨rfl, hB.out⟩
  have qt := str_eqT ht
  subst ht
  by_cases hp : p = p'
  rotate_left
  · obtain rfl : X = false := by rw [← hX.out]; simp [hp]
    clear hX
    have qp : (p == p') = false := beq_eq_false_iff_ne.2 hp
    clear hp
    have y0 := bA2.out.cell (i := 0) rfl
    have z0 := bC.out.cell (i := 0) rfl
    have y1 := bA2.out.cell (i := 1) rfl
    have z1 := bC.out.cell (i := 1) rfl
    have y2 := bA2.out.cell (i := 2) rfl
    have z2 := bC.out.cell (i := 2) rfl
    have y3 := bA2.out.cell (i := 3) rfl
    have z3 := bC.out.cell (i := 3) rfl
    have y4 := bA2.out.cell (i := 4) rfl
    have z4 := bC.out.cell (i := 4) rfl
    have y5 := bA2.out.cell (i := 5) rfl
    have z5 := bC.out.cell (i := 5) rfl
    have yl := bA2.out.lt
    have zl := bC.out.lt
    go_wp2
    go_ret
    exact ⟨rfl, hB.out⟩
  subst hp
  have qp : (p == p) = true := beq_self_eq_true _
  by_cases hc : c = c'
  rotate_left
  · obtain rfl : X = false := by rw [← hX.out]; simp [hc]
    clear hX
    have qc : (c == c') = false := by simpa using hc
    clear hc
    have y0 := bA2.out.cell (i := 0) rfl
    have z0 := bC.out.cell (i := 0) rfl
    have y1 := bA2.out.cell (i := 1) rfl
    have z1 := bC.out.cell (i := 1) rfl
    have y2 := bA2.out.cell (i := 2) rfl
    have z2 := bC.out.cell (i := 2) rfl
    have y3 := bA2.out.cell (i := 3) rfl
    have z3 := bC.out.cell (i := 3) rfl
    have y4 := bA2.out.cell (i := 4) rfl
    have z4 := bC.out.cell (i := 4) rfl
    have y5 := bA2.out.cell (i := 5) rfl
    have z5 := bC.out.cell (i := 5) rfl
    have yl := bA2.out.lt
    have zl := bC.out.lt
    go_wp2
    go_ret
    exact ⟨rfl, hB.out⟩
  subst hc
  have qc : (c == c) = true := beq_self_eq_true _
  have y0 := bA2.out.cell (i := 0) rfl
  have z0 := bC.out.cell (i := 0) rfl
  have y1 := bA2.out.cell (i := 1) rfl
  have z1 := bC.out.cell (i := 1) rfl
  have y2 := bA2.out.cell (i := 2) rfl
  have z2 := bC.out.cell (i := 2) rfl
  have y3 := bA2.out.cell (i := 3) rfl
  have z3 := bC.out.cell (i := 3) rfl
  have y4 := bA2.out.cell (i := 4) rfl
  have z4 := bC.out.cell (i := 4) rfl
  have y5 := bA2.out.cell (i := 5) rfl
  have z5 := bC.out.cell (i := 5) rfl
  have yl := bA2.out.lt
  have zl := bC.out.lt
  have hc := hcK.out _ hB.out
  go_wp2_with fail
  refine hc.mono ?_
  rintro e w7 ⟨rfl, hb7⟩
  have hB4 : Hid (Below w.heap.size w w7) := Lib.hid (hB.out.trans (hb7.mono hB.out.size))
  clear y0 z0 y1 z1 y2 z2 y3 z3 y4 z4 y5 z5 yl zl
  replace bA2 := Lib.hid (show Blk w7 y _ _ from (hb7.block y bA2.out.lt).trans bA2.out)
  replace bC := Lib.hid (show Blk w7 z _ _ from (hb7.block z bC.out.lt).trans bC.out)
  clear hc hb7
  have y0 := bA2.out.cell (i := 0) rfl
  have z0 := bC.out.cell (i := 0) rfl
  have y1 := bA2.out.cell (i := 1) rfl
  have z1 := bC.out.cell (i := 1) rfl
  have y2 := bA2.out.cell (i := 2) rfl
  have z2 := bC.out.cell (i := 2) rfl
  have y3 := bA2.out.cell (i := 3) rfl
  have z3 := bC.out.cell (i := 3) rfl
  have y4 := bA2.out.cell (i := 4) rfl
  have z4 := bC.out.cell (i := 4) rfl
  have y5 := bA2.out.cell (i := 5) rfl
  have z5 := bC.out.cell (i := 5) rfl
  have yl := bA2.out.lt
  have zl := bC.out.lt
  cases QK with
  | false =>
    obtain rfl : X = false := by rw [← hX.out]; simp
    clear hX
    go_wp2
    go_ret
    exact ⟨rfl, hB4.out⟩
  | true =>
    have hc := hcY.out _ hB4.out
    go_wp2_with fail
    refine hc.mono ?_
    rintro e w8 ⟨rfl, hb8⟩
    have hB5 : Hid (Below w.heap.size w w8) := Lib.hid (hB4.out.trans (hb8.mono hB4.out.size))
    clear y0 z0 y1 z1 y2 z2 y3 z3 y4 z4 y5 z5 yl zl
    replace bA2 := Lib.hid (show Blk w8 y _ _ from (hb8.block y bA2.out.lt).trans bA2.out)
    replace bC := Lib.hid (show Blk w8 z _ _ from (hb8.block z bC.out.lt).trans bC.out)
    clear hc hb8
    obtain rfl : X = QY := by rw [← hX.out]; simp
    clear hX
    go_wp2
    go_ret
    exact ⟨rfl, hB5.out⟩
set_option maxRecDepth 100000 in
theorem rows_piece (hn : SameOk n0) (ht : Ty f 1) (ht' : Ty f' 1) (hw : wt f ≤ n0) (h : Slc w A c f) (h' : Slc w A' c' f') :
    Calls Tryz.prog 35 #[.slice A f.len c, .slice A' f'.len c', .func (.func 36) #[] #[]] w fun e w' => e = .returned (.bool (sameF f f')) ∧ Below w.heap.size w w' := by
  have hc := eqf_piece ht ht' h h' (fun j hj W hb v v' hv hv' => el_same_piece hn (ty_drop j ht) (ty_drop j ht') hv.pos hv'.pos (Nat.le_trans (wt_drop j f) hw) W v v' hv hv')
  generalize sameF f f' = X at hc ⊢
  generalize f.len = m at hc ⊢
  generalize f'.len = m' at hc ⊢
  go_enter Tryz.func35, Tryz.ntmps35
  go_wp2_with fail
  refine hc.mono ?_
  rintro e w' ⟨rfl, hb⟩
  clear hc
  go_wp2
  go_ret
  exact ⟨rfl, hb⟩
set_option maxRecDepth 100000 in
set_option maxHeartbeats 4000000 in
theorem el_same_node (hn : SameOk n0) (ht : Ty g 0) (ht' : Ty g' 0) (hg : 0 < g.len) (hg' : 0 < g'.len) (hw : wt g ≤ n0) (w : World) (v v' : Value) (hv : ElV w g v) (hv' : ElV w g' v') :
    Calls Tryz.prog 33 #[v, v'] w fun e w' => e = .returned (.bool (sameH g g')) ∧ Below w.heap.size w w' := by
  obtain ⟨k, b, n, g, S, W, R, L, C, r, rfl, _, htS, htW, htR, htL, htC, _⟩ := at_node ht hg
  obtain ⟨k', b', n', g', S', W', R', L', C', r', rfl, _, htS', htW', htR', htL', htC', _⟩ := at_node ht' hg'
  obtain ⟨AS, cS, AW, cW, AR, cR, AL, cL, AC, cC, rfl, hsS, hsW, hsR, hsL, hsC⟩ := hv
  obtain ⟨AS', cS', AW', cW', AR', cR', AL', cL', AC', cC', rfl, hsS', hsW', hsR', hsL', hsC'⟩ := hv'
  simp only [wt] at hw
  have hcS := fun W (hb : Below w.heap.size w W) => rows_set hn htS htS' (by omega) (hsS.below hb) (hsS'.below hb)
  have hcW := fun W (hb : Below w.heap.size w W) => rows_word hn htW htW' (by omega) (hsW.below hb) (hsW'.below hb)
  have hcR := fun W (hb : Below w.heap.size w W) => rows_redir hn htR htR' (by omega) (hsR.below hb) (hsR'.below hb)
  have hcL := fun W (hb : Below w.heap.size w W) => rows_list hn htL htL' (by omega) (hsL.below hb) (hsL'.below hb)
  have hcC := fun W (hb : Below w.heap.size w W) => rows_case hn htC htC' (by omega) (hsC.below hb) (hsC'.below hb)
  obtain ⟨X, hX⟩ : ∃ X, (decide (k = k') && (b == b') && decide (n = n') && (g == g') && sameF S S' && sameF W W' && sameF R R' && sameF L L' && sameF C C') = X := ⟨_, rfl⟩
  show Calls _ _ _ _ (fun e w' => e = .returned (.bool (decide (k = k') && (b == b') && decide (n = n') && (g == g') && sameF S S' && sameF W W' && sameF R R' && sameF L L' && sameF C C')) ∧ _)
  rw [hX]
  have hmS := hsS.le
  have hmS' := hsS'.le
  generalize sameF S S' = QS at hcS hX
  generalize S.len = mS at hcS hmS ⊢
  generalize S'.len = mS' at hcS hmS' ⊢
  unfold maxLen at hmS hmS'
  replace hcS := Lib.hid hcS
  have hmW := hsW.le
  have hmW' := hsW'.le
  generalize sameF W W' = QW at hcW hX
  generalize W.len = mW at hcW hmW ⊢
  generalize W'.len = mW' at hcW hmW' ⊢
  unfold maxLen at hmW hmW'
  replace hcW := Lib.hid hcW
  have hmR := hsR.le
  have hmR' := hsR'.le
  generalize sameF R R' = QR at hcR hX
  generalize R.len = mR at hcR hmR ⊢
  generalize R'.len = mR' at hcR hmR' ⊢
  unfold maxLen at hmR hmR'
  replace hcR := Lib.hid hcR
  have hmL := hsL.le
  have hmL' := hsL'.le
  generalize sameF L L' = QL at hcL hX
  generalize L.len = mL at hcL hmL ⊢
  generalize L'.len = mL' at hcL hmL' ⊢
  unfold maxLen at hmL hmL'
  replace hcL := Lib.hid hcL
  have hmC := hsC.le
  have hmC' := hsC'.le
  generalize sameF C C' = QC at hcC hX
  generalize C.len = mC at hcC hmC ⊢
  generalize C'.len = mC' at hcC hmC' ⊢
  unfold maxLen at hmC hmC'
  replace hcC := Lib.hid hcC
  clear hn hsS hsS' htS htS' hsW hsW' htW htW' hsR hsR' htR htR' hsL hsL' htL htL' hsC hsC' htC htC' hg hg' hw ht ht'
  have hbA : Below w.heap.size w (w.alloc (.cells #[.int .i64 k, .bool b, .string n, .bool g, .slice AS mS cS, .slice AW mW cW, .slice AR mR cR, .slice AL mL cL, .slice AC mC cC] 43)) := (Below.refl _ w).alloc (Nat.le_refl _) _
  have bA : Blk (w.alloc (.cells #[.int .i64 k, .bool b, .string n, .bool g, .slice AS mS cS, .slice AW mW cW, .slice AR mR cR, .slice AL mL cL, .slice AC mC cC] 43)) w.heap.size [.int .i64 k, .bool b, .string n, .bool g, .slice AS mS cS, .slice AW mW cW, .slice AR mR cR, .slice AL mL cL, .slice AC mC cC] 43 := Blk.new w _ _
  obtain ⟨w1, hw1⟩ : ∃ w1, w.alloc (.cells #[.int .i64 k, .bool b, .string n, .bool g, .slice AS mS cS, .slice AW mW cW, .slice AR mR cR, .slice AL mL cL, .slice AC mC cC] 43) = w1 := ⟨_, rfl⟩
  obtain ⟨y, hy⟩ : ∃ y, w.heap.size = y := ⟨_, rfl⟩
  rw [hw1] at hbA bA
  have hbC : Below w1.heap.size w1 (w1.alloc (.cells #[.int .i64 k', .bool b', .string n', .bool g', .slice AS' mS' cS', .slice AW' mW' cW', .slice AR' mR' cR', .slice AL' mL' cL', .slice AC' mC' cC'] 43)) := (Below.refl _ w1).alloc (Nat.le_refl _) _
  have bC : Blk (w1.alloc (.cells #[.int .i64 k', .bool b', .string n', .bool g', .slice AS' mS' cS', .slice AW' mW' cW', .slice AR' mR' cR', .slice AL' mL' cL', .slice AC' mC' cC'] 43)) w1.heap.size [.int .i64 k', .bool b', .string n', .bool g', .slice AS' mS' cS', .slice AW' mW' cW', .slice AR' mR' cR', .slice AL' mL' cL', .slice AC' mC' cC'] 43 := Blk.new w1 _ _
  have bA2 := (hbC.block _ bA.lt).trans bA
  have hB := hbA.trans (hbC.mono hbA.size)
  obtain ⟨w2, hw2⟩ : ∃ w2, w1.alloc (.cells #[.int .i64 k', .bool b', .string n', .bool g', .slice AS' mS' cS', .slice AW' mW' cW', .slice AR' mR' cR', .slice AL' mL' cL', .slice AC' mC' cC'] 43) = w2 := ⟨_, rfl⟩
  obtain ⟨z, hz⟩ : ∃ z, w1.heap.size = z := ⟨_, rfl⟩
  rw [hw2] at hB bC bA2
  rw [hz] at bC
  rw [hy] at bA2
  have hz2 : y + 1 = z := by rw [← hz, ← hw1, ← hy]; simp
  replace hz2 := Lib.hid hz2
  replace hB := Lib.hid hB
  replace bC := Lib.hid bC
  replace bA2 := Lib.hid (show Blk w2 y _ _ from bA2)
  clear hbA bA hbC
  replace hw1 := Lib.hid hw1
  replace hw2 := Lib.hid hw2
  replace hy := Lib.hid hy
  replace hz := Lib.hid hz
  replace hX := Lib.hid hX
  go_enter Tryz.func33, Tryz.ntmps33
  go_upto_region 1 with fail
  rw [hw1.out, hw2.out, hy.out]
  first | rw [hz.out] | rw [hz2.out]
  clear hw1 hw2 hy hz hz2
  by_cases hk : k = k'
  rotate_left
  · obtain rfl : X = false := by rw [← hX.out]; simp [hk]
    clear hX
    have qk : (k == k') = false := beq_eq_false_iff_ne.2 hk
    clear hk
    have y0 := bA2.out.cell (i := 0) rfl
    have z0 := bC.out.cell (i := 0) rfl
    have y1 := bA2.out.cell (i := 1) rfl
    have z1 := bC.out.cell (i := 1) rfl
    have y2 := bA2.out.cell (i := 2) rfl
    have z2 := bC.out.cell (i := 2) rfl
    have y3 := bA2.out.cell (i := 3) rfl
    have z3 := bC.out.cell (i := 3) rfl
    have y4 := bA2.out.cell (i := 4) rfl
    have z4 := bC.out.cell (i := 4) rfl
    have y5 := bA2.out.cell (i := 5) rfl
    have z5 := bC.out.cell (i := 5) rfl
    have y6 := bA2.out.cell (i := 6) rfl
    have z6 := bC.out.cell (i := 6) rfl
    have y7 := bA2.out.cell (i := 7) rfl
    have z7 := bC.out.cell (i := 7) rfl
    have y8 := bA2.out.cell (i := 8) rfl
    have z8 := bC.out.cell (i := 8) rfl
    have yl := bA2.out.lt
    have zl := bC.out.lt
    go_wp2
    go_ret
    exact ⟨rfl, hB.out⟩
  subst hk
  have qk : (k == k) = true := beq_self_eq_true _
  by_cases hb : b = b'
  rotate_left
  · obtain rfl : X = false := by rw [← hX.out]; simp [hb]
    clear hX
    have qb : (b == b') = false := by simpa using hb
    clear hb
    have y0 := bA2.out.cell (i := 0) rfl
    have z0 := bC.out.cell (i := 0) rfl
    have y1 := bA2.out.cell (i := 1) rfl
    have z1 := bC.out.cell (i := 1) rfl
    have y2 := bA2.out.cell (i := 2) rfl
    have z2 := bC.out.cell (i := 2) rfl
    have y3 := bA2.out.cell (i := 3) rfl
    have z3 := bC.out.cell (i := 3) rfl
    have y4 := bA2.out.cell (i := 4) rfl
    have z4 := bC.out.cell (i := 4) rfl
    have y5 := bA2.out.cell (i := 5) rfl
    have z5 := bC.out.cell (i := 5) rfl
    have y6 := bA2.out.cell (i := 6) rfl
    have z6 := bC.out.cell (i := 6) rfl
    have y7 := bA2.out.cell (i := 7) rfl
    have z7 := bC.out.cell (i := 7) rfl
    have y8 := bA2.out.cell (i := 8) rfl
    have z8 := bC.out.cell (i := 8) rfl
    have yl := bA2.out.lt
    have zl := bC.out.lt
    go_wp2
    go_ret
    exact ⟨rfl, hB.out⟩
  subst hb
  have qb : (b == b) = true := beq_self_eq_true _
  by_cases hn : n = n'
  rotate_left
  · obtain rfl : X = false := by rw [← hX.out]; simp [hn]
    clear hX
    have qn := str_neT hn
    clear hn
    have y0 := bA2.out.cell (i := 0) rfl
    have z0 := bC.out.cell (i := 0) rfl
    have y1 := bA2.out.cell (i := 1) rfl
    have z1 := bC.out.cell (i := 1) rfl
    have y2 := bA2.out.cell (i := 2) rfl
    have z2 := bC.out.cell (i := 2) rfl
    have y3 := bA2.out.cell (i := 3) rfl
    have z3 := bC.out.cell (i := 3) rfl
    have y4 := bA2.out.cell (i := 4) rfl
    have z4 := bC.out.cell (i := 4) rfl
    have y5 := bA2.out.cell (i := 5) rfl
    have z5 := bC.out.cell (i := 5) rfl
    have y6 := bA2.out.cell (i := 6) rfl
    have z6 := bC.out.cell (i := 6) rfl
    have y7 := bA2.out.cell (i := 7) rfl
    have z7 := bC.out.cell (i := 7) rfl
    have y8 := bA2.out.cell (i := 8) rfl
    have z8 := bC.out.cell (i := 8) rfl
    have yl := bA2.out.lt
    have zl := bC.out.lt
    go_wp2
    go_ret
    exact ⟨rfl, hB.out⟩
  have qn := str_eqT hn
  subst hn
  by_cases hg : g = g'
  rotate_left
  · obtain rfl : X = false := by rw [← hX.out]; simp [hg]
    clear hX
    have qg : (g == g') = false := by simpa using hg
    clear hg
    have y0 := bA2.out.cell (i := 0) rfl
    have z0 := bC.out.cell (i := 0) rfl
    have y1 := bA2.out.cell (i := 1) rfl
    have z1 := bC.out.cell (i := 1) rfl
    have y2 := bA2.out.cell (i := 2) rfl
    have z2 := bC.out.cell (i := 2) rfl
    have y3 := bA2.out.cell (i := 3) rfl
    have z3 := bC.out.cell (i := 3) rfl
    have y4 := bA2.out.cell (i := 4) rfl
    have z4 := bC.out.cell (i := 4) rfl
    have y5 := bA2.out.cell (i := 5) rfl
    have z5 := bC.out.cell (i := 5) rfl
    have y6 := bA2.out.cell (i := 6) rfl
    have z6 := bC.out.cell (i := 6) rfl
    have y7 := bA2.out.cell (i := 7) rfl
    have z7 := bC.out.cell (i := 7) rfl
    have y8 := bA2.out.cell (i := 8) rfl
    have z8 := bC.out.cell (i := 8) rfl
    have yl := bA2.out.lt
    have zl := bC.out.lt
    go_wp2
    go_ret
    exact ⟨rfl, hB.out⟩
  subst hg
  have qg : (g == g) = true := beq_self_eq_true _
  have y0 := bA2.out.cell (i := 0) rfl
  have z0 := bC.out.cell (i := 0) rfl
  have y1 := bA2.out.cell (i := 1) rfl
  have z1 := bC.out.cell (i := 1) rfl
  have y2 := bA2.out.cell (i := 2) rfl
  have z2 := bC.out.cell (i := 2) rfl
  have y3 := bA2.out.cell (i := 3) rfl
  have z3 := bC.out.cell (i := 3) rfl
  have y4 := bA2.out.cell (i := 4) rfl
  have z4 := bC.out.cell (i := 4) rfl
  have y5 := bA2.out.cell (i := 5) rfl
  have z5 := bC.out.cell (i := 5) rfl
  have y6 := bA2.out.cell (i := 6) rfl
  have z6 := bC.out.cell (i := 6) rfl
  have y7 := bA2.out.cell (i := 7) rfl
  have z7 := bC.out.cell (i := 7) rfl
  have y8 := bA2.out.cell (i := 8) rfl
  have z8 := bC.out.cell (i := 8) rfl
  have yl := bA2.out.lt
  have zl := bC.out.lt
  have hc := hcS.out _ hB.out
  go_wp2_with fail
  refine hc.mono ?_
  rintro e w7 ⟨rfl, hb7⟩
  have hB4 : Hid (Below w.heap.size w w7) := Lib.hid (hB.out.trans (hb7.mono hB.out.size))
  clear y0 z0 y1 z1 y2 z2 y3 z3 y4 z4 y5 z5 y6 z6 y7 z7 y8 z8 yl zl
  replace bA2 := Lib.hid (show Blk w7 y _ _ from (hb7.block y bA2.out.lt).trans bA2.out)
  replace bC := Lib.hid (show Blk w7 z _ _ from (hb7.block z bC.out.lt).trans bC.out)
  clear hc hb7
  have y0 := bA2.out.cell (i := 0) rfl
  have z0 := bC.out.cell (i := 0) rfl
  have y1 := bA2.out.cell (i := 1) rfl
  have z1 := bC.out.cell (i := 1) rfl
  have y2 := bA2.out.cell (i := 2) rfl
  have z2 := bC.out.cell (i := 2) rfl
  have y3 := bA2.out.cell (i := 3) rfl
  have z3 := bC.out.cell (i := 3) rfl
  have y4 := bA2.out.cell (i := 4) rfl
  have z4 := bC.out.cell (i := 4) rfl
  have y5 := bA2.out.cell (i := 5) rfl
  have z5 := bC.out.cell (i := 5) rfl
  have y6 := bA2.out.cell (i := 6) rfl
  have z6 := bC.out.cell (i := 6) rfl
  have y7 := bA2.out.cell (i := 7) rfl
  have z7 := bC.out.cell (i := 7) rfl
  have y8 := bA2.out.cell (i := 8) rfl
  have z8 := bC.out.cell (i := 8) rfl
  have yl := bA2.out.lt
  have zl := bC.out.lt
  cases QS with
  | false =>
    obtain rfl : X = false := by rw [← hX.out]; simp
    clear hX
    go_wp2
    go_ret
    exact ⟨rfl, hB4.out⟩
  | true =>
    have hc := hcW.out _ hB4.out
    go_wp2_with fail
    refine hc.mono ?_
    rintro e w8 ⟨rfl, hb8⟩
    have hB5 : Hid (Below w.heap.size w w8) := Lib.hid (hB4.out.trans (hb8.mono hB4.out.size))
    clear y0 z0 y1 z1 y2 z2 y3 z3 y4 z4 y5 z5 y6 z6 y7 z7 y8 z8 yl zl
    replace bA2 := Lib.hid (show Blk w8 y _ _ from (hb8.block y bA2.out.lt).trans bA2.out)
    replace bC := Lib.hid (show Blk w8 z _ _ from (hb8.block z bC.out.lt).trans bC.out)
    clear hc hb8
    have y0 := bA2.out.cell (i := 0) rfl
    have z0 := bC.out.cell (i := 0) rfl
    have y1 := bA2.out.cell (i := 1) rfl
    have z1 := bC.out.cell (i := 1) rfl
    have y2 := bA2.out.cell (i := 2) rfl
    have z2 := bC.out.cell (i := 2) rfl
    have y3 := bA2.out.cell (i := 3) rfl
    have z3 := bC.out.cell (i := 3) rfl
    have y4 := bA2.out.cell (i := 4) rfl
    have z4 := bC.out.cell (i := 4) rfl
    have y5 := bA2.out.cell (i := 5) rfl
    have z5 := bC.out.cell (i := 5) rfl
    have y6 := bA2.out.cell (i := 6) rfl
    have z6 := bC.out.cell (i := 6) rfl
    have y7 := bA2.out.cell (i := 7) rfl
    have z7 := bC.out.cell (i := 7) rfl
    have y8 := bA2.out.cell (i := 8) rfl
    have z8 := bC.out.cell (i := 8) rfl
    have yl := bA2.out.lt
    have zl := bC.out.lt
    cases QW with
    | false =>
      obtain rfl : X = false := by rw [← hX.out]; simp
      clear hX
      go_wp2
      go_ret
      exact ⟨rfl, hB5.out⟩
    | true =>
      have hc := hcR.out _ hB5.out
      go_wp2_with fail
      refine hc.mono ?_
      rintro e w9 ⟨rfl, hb9⟩
      have hB6 : Hid (Below w.heap.size w w9) := Lib.hid (hB5.out.trans (hb9.mono hB5.out.size))
      clear y0 z0 y1 z1 y2 z2 y3 z3 y4 z4 y5 z5 y6 z6 y7 z7 y8 z8 yl zl
      replace bA2 := Lib.hid (show Blk w9 y _ _ from (hb9.block y bA2.out.lt).trans bA2.out)
      replace bC := Lib.hid (show Blk w9 z _ _ from (hb9.block z bC.out.lt).trans bC.out)
      clear hc hb9
      have y0 := bA2.out.cell (i := 0) rfl
      have z0 := bC.out.cell (i := 0) rfl
      have y1 := bA2.out.cell (i := 1) rfl
      have z1 := bC.out.cell (i := 1) rfl
      have y2 := bA2.out.cell (i := 2) rfl
      have z2 := bC.out.cell (i := 2) rfl
      have y3 := bA2.out.cell (i := 3) rfl
      have z3 := bC.out.cell (i := 3) rfl
      have y4 := bA2.out.cell (i := 4) rfl
      have z4 := bC.out.cell (i := 4) rfl
      have y5 := bA2.out.cell (i := 5) rfl
      have z5 := bC.out.cell (i := 5) rfl
      have y6 := bA2.out.cell (i := 6) rfl
      have z6 := bC.out.cell (i := 6) rfl
      have y7 := bA2.out.cell (i := 7) rfl
      have z7 := bC.out.cell (i := 7) rfl
      have y8 := bA2.out.cell (i := 8) rfl
      have z8 := bC.out.cell (i := 8) rfl
      have yl := bA2.out.lt
      have zl := bC.out.lt
      cases QR with
      | false =>
        obtain rfl : X = false := by rw [← hX.out]; simp
        clear hX
        go_wp2
        go_ret
        exact ⟨rfl, hB6.out⟩
      | true =>
        have hc := hcL.out _ hB6.out
        go_wp2_with fail
        refine hc.mono ?_
        rintro e w10 ⟨rfl, hb10⟩
        have hB7 : Hid (Below w.heap.size w w10) := Lib.hid (hB6.out.trans (hb10.mono hB6.out.size))
        clear y0 z0 y1 z1 y2 z2 y3 z3 y4 z4 y5 z5 y6 z6 y7 z7 y8 z8 yl zl
        replace bA2 := Lib.hid (show Blk w10 y _ _ from (hb10.block y bA2.out.lt).trans bA2.out)
        replace bC := Lib.hid (show Blk w10 z _ _ from (hb10.block z bC.out.lt).trans bC.out)
        clear hc hb10
        have y0 := bA2.out.cell (i := 0) rfl
        have z0 := bC.out.cell (i := 0) rfl
        have y1 := bA2.out.cell (i := 1) rfl
        have z1 := bC.out.cell (i := 1) rfl
        have y2 := bA2.out.cell (i := 2) rfl
        have z2 := bC.out.cell (i := 2) rfl
        have y3 := bA2.out.cell (i := 3) rfl
        have z3 := bC.out.cell (i := 3) rfl
        have y4 := bA2.out.cell (i := 4) rfl
        have z4 := bC.out.cell (i := 4) rfl
        have y5 := bA2.out.cell (i := 5) rfl
        have z5 := bC.out.cell (i := 5) rfl
        have y6 := bA2.out.cell (i := 6) rfl
        have z6 := bC.out.cell (i := 6) rfl
        have y7 := bA2.out.cell (i := 7) rfl
        have z7 := bC.out.cell (i := 7) rfl
        have y8 := bA2.out.cell (i := 8) rfl
        have z8 := bC.out.cell (i := 8) rfl
        have yl := bA2.out.lt
        have zl := bC.out.lt
        cases QL with
        | false =>
          obtain rfl : X = false := by rw [← hX.out]; simp
          clear hX
          go_wp2
          go_ret
          exact ⟨rfl, hB7.out⟩
        | true =>
          have hc := hcC.out _ hB7.out
          go_wp2_with fail
          refine hc.mono ?_
          rintro e w11 ⟨rfl, hb11⟩
          have hB8 : Hid (Below w.heap.size w w11) := Lib.hid (hB7.out.trans (hb11.mono hB7.out.size))
          clear y0 z0 y1 z1 y2 z2 y3 z3 y4 z4 y5 z5 y6 z6 y7 z7 y8 z8 yl zl
          replace bA2 := Lib.hid (show Blk w11 y _ _ from (hb11.block y bA2.out.lt).trans bA2.out)
          replace bC := Lib.hid (show Blk w11 z _ _ from (hb11.block z bC.out.lt).trans bC.out)
          clear hc hb11
          obtain rfl : X = QC := by rw [← hX.out]; simp
          clear hX
          go_wp2
          go_ret
          exact ⟨rfl, hB8.out⟩
set_option maxRecDepth 100000 in
theorem rows_node (hn : SameOk n0) (ht : Ty f 0) (ht' : Ty f' 0) (hw : wt f ≤ n0) (h : Slc w A c f) (h' : Slc w A' c' f') :
    Calls Tryz.prog 32 #[.slice A f.len c, .slice A' f'.len c', .func (.func 33) #[] #[]] w fun e w' => e = .returned (.bool (sameF f f')) ∧ Below w.heap.size w w' := by
  have hc := eqf_node ht ht' h h' (fun j hj W hb v v' hv hv' => el_same_node hn (ty_drop j ht) (ty_drop j ht') hv.pos hv'.pos (Nat.le_trans (wt_drop j f) hw) W v v' hv hv')
  generalize sameF f f' = X at hc ⊢
  generalize f.len = m at hc ⊢
  generalize f'.len = m' at hc ⊢
  go_enter Tryz.func32, Tryz.ntmps32
  go_wp2_with fail
  refine hc.mono ?_
  rintro e w' ⟨rfl, hb⟩
  clear hc
  go_wp2
  go_ret
  exact ⟨rfl, hb⟩
end
theorem sameOk : ∀ n, SameOk n := fun n => by
  induction n with
  | zero => exact ⟨fun f h => absurd h (Nat.not_lt_zero _), fun f h => absurd h (Nat.not_lt_zero _)⟩
  | succ n ih =>
    refine ⟨fun f hf ht f' W A c A' c' ht' h h' => ?_, fun f hf ht f' W A c A' c' ht' h h' => ?_⟩
    · have hc := rows_node ih ht ht' (by omega) h h'
      generalize sameF f f' = X at hc ⊢
      generalize f.len = m at hc ⊢
      generalize f'.len = m' at hc ⊢
      clear h h' ih
      go_enter Tryz.func16, Tryz.ntmps16
      go_wp2_with fail
      refine hc.mono ?_
      rintro e w' ⟨rfl, hb⟩
      clear hc
      go_wp2
      go_ret
      exact ⟨rfl, hb⟩
    · have hc := rows_piece ih ht ht' (by omega) h h'
      generalize sameF f f' = X at hc ⊢
      generalize f.len = m at hc ⊢
      generalize f'.len = m' at hc ⊢
      clear h h' ih
      go_enter Tryz.func18, Tryz.ntmps18
      go_wp2_with fail
      refine hc.mono ?_
      rintro e w' ⟨rfl, hb⟩
      clear hc
      go_wp2
      go_ret
      exact ⟨rfl, hb⟩
theorem Same_any {f f' : F} {W : World} {A A' : Option Addr} {c c' : Nat} (ht : Ty f 0) (ht' : Ty f' 0) (h : Slc W A c f) (h' : Slc W A' c' f') : Calls Tryz.prog 16 #[.slice A f.len c, .slice A' f'.len c'] W fun e w' => e = .returned (.bool (sameF f f')) ∧ Below W.heap.size W w' := (sameOk (wt f + 1)).1 f (Nat.lt_succ_self _) ht f' W A c A' c' ht' h h'
end Go.Proofs.YtmchfoedjajbdaaGreat
/-
  The law's own words, and what it asks of the chapter's examples. Conditions: none.
-/
set_option linter.unusedSimpArgs false
set_option linter.unusedVariables false
namespace Go.Proofs.YtmchfoedjajbdaaGreat
open Go Go.RowKit Go.ChangeMaps

section
variable {w : World}
theorem slc_word {w : World} {b : Nat} {s : ByteArray} (h : Blk w b [.int .i64 1, .string s, .int .i64 0, .bool false, .slice none 0 0, .slice none 0 0] 66) : Slc w (some ⟨b, 0, none⟩) 1 (wdF s) :=
  ⟨Nat.le_refl _, by decide, fun _ => ⟨b, 0, rfl, h.lt, rw_piece.2 ⟨h.cell (i := 0) rfl, h.cell (i := 1) rfl, h.cell (i := 2) rfl, h.cell (i := 3) rfl, ⟨none, 0, h.cell (i := 4) rfl, Slc.nil⟩, ⟨none, 0, h.cell (i := 5) rfl, Slc.nil⟩, trivial⟩⟩⟩
set_option maxRecDepth 100000 in
theorem Bare_any (s : ByteArray) : Calls Tryz.prog 21 #[.string s] w fun e w' => ∃ b, e = .returned (.slice (some ⟨b, 0, none⟩) 1 1) ∧ Slc w' (some ⟨b, 0, none⟩) 1 (wdF s) ∧ Below w.heap.size w w' := by
  have hk := Blk.new w [.int .i64 1, .string s, .int .i64 0, .bool false, .slice none 0 0, .slice none 0 0] 66
  have hb := Lib.hid ((Below.refl w.heap.size w).alloc (Nat.le_refl _) (.cells #[.int .i64 1, .string s, .int .i64 0, .bool false, .slice none 0 0, .slice none 0 0] 66))
  have hs := Lib.hid (slc_word hk)
  clear hk
  go_enter Tryz.func21, Tryz.ntmps21
  go_wp2
  go_ret
  exact ⟨_, rfl, hs.out, hb.out⟩
end
end Go.Proofs.YtmchfoedjajbdaaGreat
/-
  What the law asks of the chapter's examples. Conditions: none.
-/
set_option linter.unusedSimpArgs false
set_option linter.unusedVariables false
namespace Go.Proofs.YtmchfoedjajbdaaGreat
open Go Go.RowKit Go.ChangeMaps

section
variable {w : World}
theorem slc_node1 {w : World} {B : Nat} {k : Int} {b g : Bool} {n : ByteArray} {S W R L C : F} {AS AW AR AL AC : Option Addr} {cS cW cR cL cC : Nat} {T : TypeId} (h : Blk w B [.int .i64 k, .bool b, .string n, .bool g, .slice AS S.len cS, .slice AW W.len cW, .slice AR R.len cR, .slice AL L.len cL, .slice AC C.len cC] T) (hS : Slc w AS cS S) (hW : Slc w AW cW W) (hR : Slc w AR cR R) (hL : Slc w AL cL L) (hC : Slc w AC cC C) : Slc w (some ⟨B, 0, none⟩) 1 (.node k b n g S W R L C .nil) :=
  ⟨Nat.le_refl _, by decide, fun _ => ⟨B, 0, rfl, h.lt, rw_node.2 ⟨h.cell (i := 0) rfl, h.cell (i := 1) rfl, h.cell (i := 2) rfl, h.cell (i := 3) rfl, ⟨AS, cS, h.cell (i := 4) rfl, hS⟩, ⟨AW, cW, h.cell (i := 5) rfl, hW⟩, ⟨AR, cR, h.cell (i := 6) rfl, hR⟩, ⟨AL, cL, h.cell (i := 7) rfl, hL⟩, ⟨AC, cC, h.cell (i := 8) rfl, hC⟩, trivial⟩⟩⟩
theorem slc_row1 {w : World} {B : Nat} {x : F} {A : Option Addr} {c : Nat} {T : TypeId} (h : Blk w B [.slice A x.len c] T) (hx : Slc w A c x) : Slc w (some ⟨B, 0, none⟩) 1 (.row x .nil) :=
  ⟨Nat.le_refl _, by decide, fun _ => ⟨B, 0, rfl, h.lt, rw_row.2 ⟨⟨A, c, h.cell (i := 0) rfl, hx⟩, trivial⟩⟩⟩
theorem slc_row2 {w : World} {B : Nat} {x y : F} {A A' : Option Addr} {c c' : Nat} {T : TypeId} (h : Blk w B [.slice A x.len c, .slice A' y.len c'] T) (hx : Slc w A c x) (hy : Slc w A' c' y) : Slc w (some ⟨B, 0, none⟩) 2 (.row x (.row y .nil)) :=
  ⟨Nat.le_refl _, by decide, fun _ => ⟨B, 0, rfl, h.lt, rw_row.2 ⟨⟨A, c, h.cell (i := 0) rfl, hx⟩, rw_row.2 ⟨⟨A', c', h.cell (i := 1) rfl, hy⟩, trivial⟩⟩⟩⟩
theorem slc_set1 {w : World} {B : Nat} {n : ByteArray} {x : F} {A : Option Addr} {c : Nat} {T : TypeId} (h : Blk w B [.string n, .slice A x.len c] T) (hx : Slc w A c x) : Slc w (some ⟨B, 0, none⟩) 1 (.set n x .nil) :=
  ⟨Nat.le_refl _, by decide, fun _ => ⟨B, 0, rfl, h.lt, rw_set.2 ⟨h.cell (i := 0) rfl, ⟨A, c, h.cell (i := 1) rfl, hx⟩, trivial⟩⟩⟩
theorem two_new' (w : World) (o1 o2 : Obj) : ((w.alloc o1).alloc o2).heap[w.heap.size]? = some o1 ∧ ((w.alloc o1).alloc o2).heap[w.heap.size + 1]? = some o2 ∧ Below w.heap.size w ((w.alloc o1).alloc o2) := by
  have h1 := heap_alloc_new w o1
  have h2 := heap_alloc_new (w.alloc o1) o2
  have hs : (w.alloc o1).heap.size = w.heap.size + 1 := by rw [World.size_alloc]
  have hb := (Below.refl (w.alloc o1).heap.size (w.alloc o1)).alloc (Nat.le_refl _) o2
  rw [hs] at h2
  exact ⟨(hb.block w.heap.size (by omega)).trans h1, h2, ((Below.refl w.heap.size w).alloc (Nat.le_refl _) o1).alloc (by rw [World.size_alloc]; omega) o2⟩
theorem alloc_below (w : World) (o : Obj) : Below w.heap.size w (w.alloc o) := (Below.refl _ w).alloc (Nat.le_refl _) o
theorem ty_ex : Ty exA 0 ∧ Ty exB 0 ∧ Ty exC 0 ∧ Ty exD 0 := by
  refine ⟨?_, ?_, ?_, ?_⟩ <;> simp [exA, exB, exC, exD, wdF, Ty, I64]
theorem wt_ex : wt exA ≤ 4194304 ∧ wt exB ≤ 4194304 ∧ wt exC ≤ 4194304 ∧ wt exD ≤ 4194304 ∧ byF exA ≤ 1000000 ∧ byF exB ≤ 1000000 ∧ byF exC ≤ 1000000 ∧ byF exD ≤ 1000000 := by decide +kernel
set_option maxRecDepth 100000 in
set_option maxHeartbeats 16000000 in
theorem awake_any : Calls Tryz.prog 8 #[] w fun e w' => e = .returned (.bool true) ∧ Below w.heap.size w w' := by
  go_enter Tryz.func8, Tryz.ntmps8
  skip
  go_wp2_with fail
  refine (Bare_any _).mono ?_
  rintro e v1 ⟨b1, rfl, hs1, hb1⟩
  have hB1 := Lib.hid hb1
  replace hs1 := Lib.hid hs1
  clear hb1
  go_wp2_with fail
  refine (Bare_any _).mono ?_
  rintro e v2 ⟨b2, rfl, hs2, hb2⟩
  replace hs1 := Lib.hid (hs1.out.below hb2)
  have hB2 := Lib.hid (hB1.out.trans (hb2.mono hB1.out.size))
  clear hB1
  replace hs2 := Lib.hid hs2
  clear hb2
  go_upto_region 2 with fail
  obtain ⟨h1, h2, hb⟩ := two_new' v2 (.cells #[.slice (some ⟨b1, 0, none⟩) 1 1, .slice (some ⟨b2, 0, none⟩) 1 1] 29) (.cells #[.int .i64 1, .bool false, .string ⟨#[]⟩, .bool false, .slice none 0 0, .slice (some ⟨v2.heap.size, 0, none⟩) 2 2, .slice none 0 0, .slice none 0 0, .slice none 0 0] 43)
  generalize (v2.alloc (.cells #[.slice (some ⟨b1, 0, none⟩) 1 1, .slice (some ⟨b2, 0, none⟩) 1 1] 29)).alloc (.cells #[.int .i64 1, .bool false, .string ⟨#[]⟩, .bool false, .slice none 0 0, .slice (some ⟨v2.heap.size, 0, none⟩) 2 2, .slice none 0 0, .slice none 0 0, .slice none 0 0] 43) = v3 at h1 h2 hb ⊢
  replace hs1 := Lib.hid (hs1.out.below hb)
  replace hs2 := Lib.hid (hs2.out.below hb)
  have hB3 := Lib.hid (hB2.out.trans (hb.mono hB2.out.size))
  have hf := slc_row2 (T := 29) (x := wdF ⟨#[101, 99, 104, 111]⟩) (y := wdF ⟨#[97]⟩) h1 hs1.out hs2.out
  have hA := Lib.hid ((slc_node1 (T := 43) (S := .nil) (W := .row (wdF ⟨#[101, 99, 104, 111]⟩) (.row (wdF ⟨#[97]⟩) .nil)) (R := .nil) (L := .nil) (C := .nil) h2 Slc.nil hf Slc.nil Slc.nil Slc.nil : Slc v3 _ 1 exA))
  clear hB2 h1 h2 hb hf
  generalize v2.heap.size = n3 at hA ⊢
  clear hs1 hs2
  go_upto_region 3 with fail
  obtain ⟨h1, h2, hb⟩ := two_new' v3 (.cells #[.slice (some ⟨n3 + 1, 0, none⟩) 1 1] 22) (.cells #[.int .i64 2, .bool false, .string ⟨#[]⟩, .bool false, .slice none 0 0, .slice none 0 0, .slice none 0 0, .slice (some ⟨v3.heap.size, 0, none⟩) 1 1, .slice none 0 0] 43)
  generalize (v3.alloc (.cells #[.slice (some ⟨n3 + 1, 0, none⟩) 1 1] 22)).alloc (.cells #[.int .i64 2, .bool false, .string ⟨#[]⟩, .bool false, .slice none 0 0, .slice none 0 0, .slice none 0 0, .slice (some ⟨v3.heap.size, 0, none⟩) 1 1, .slice none 0 0] 43) = v4 at h1 h2 hb ⊢
  replace hA := Lib.hid (hA.out.below hb)
  have hB4 := Lib.hid (hB3.out.trans (hb.mono hB3.out.size))
  have hf := slc_row1 (T := 22) (x := exA) h1 hA.out
  have hBx := Lib.hid ((slc_node1 (T := 43) (S := .nil) (W := .nil) (R := .nil) (L := .row exA .nil) (C := .nil) h2 Slc.nil Slc.nil Slc.nil hf Slc.nil : Slc v4 _ 1 exB))
  clear hB3 h1 h2 hb hf
  generalize v3.heap.size = n4 at hBx ⊢
  go_wp2_with fail
  refine (Bare_any _).mono ?_
  rintro e v5 ⟨b5, rfl, hs5, hb5⟩
  replace hA := Lib.hid (hA.out.below hb5)
  replace hBx := Lib.hid (hBx.out.below hb5)
  have hB5 := Lib.hid (hB4.out.trans (hb5.mono hB4.out.size))
  clear hB4
  replace hs5 := Lib.hid hs5
  clear hb5
  go_upto_region 4 with fail
  obtain ⟨h1, h2, hb⟩ := two_new' v5 (.cells #[.slice (some ⟨b5, 0, none⟩) 1 1] 29) (.cells #[.int .i64 1, .bool false, .string ⟨#[]⟩, .bool false, .slice none 0 0, .slice (some ⟨v5.heap.size, 0, none⟩) 1 1, .slice none 0 0, .slice none 0 0, .slice none 0 0] 43)
  generalize (v5.alloc (.cells #[.slice (some ⟨b5, 0, none⟩) 1 1] 29)).alloc (.cells #[.int .i64 1, .bool false, .string ⟨#[]⟩, .bool false, .slice none 0 0, .slice (some ⟨v5.heap.size, 0, none⟩) 1 1, .slice none 0 0, .slice none 0 0, .slice none 0 0] 43) = v6 at h1 h2 hb ⊢
  replace hA := Lib.hid (hA.out.below hb)
  replace hBx := Lib.hid (hBx.out.below hb)
  replace hs5 := Lib.hid (hs5.out.below hb)
  have hB6 := Lib.hid (hB5.out.trans (hb.mono hB5.out.size))
  have hf := slc_row1 (T := 29) (x := wdF ⟨#[105, 102]⟩) h1 hs5.out
  have hCx := Lib.hid ((slc_node1 (T := 43) (S := .nil) (W := .row (wdF ⟨#[105, 102]⟩) .nil) (R := .nil) (L := .nil) (C := .nil) h2 Slc.nil hf Slc.nil Slc.nil Slc.nil : Slc v6 _ 1 exC))
  clear hB5 h1 h2 hb hf
  generalize v5.heap.size = n6 at hCx ⊢
  clear hs5
  have hk7 := Blk.new v6 [.string ⟨#[120]⟩, .slice none 0 0] 50
  have hb := alloc_below v6 (.cells #[.string ⟨#[120]⟩, .slice none 0 0] 50)
  go_wp2_with fail
  generalize v6.alloc (.cells #[.string ⟨#[120]⟩, .slice none 0 0] 50) = v7 at hk7 hb ⊢
  replace hA := Lib.hid (hA.out.below hb)
  replace hBx := Lib.hid (hBx.out.below hb)
  replace hCx := Lib.hid (hCx.out.below hb)
  have hB7 := Lib.hid (hB6.out.trans (hb.mono hB6.out.size))
  have hSx := Lib.hid (slc_set1 (T := 50) (x := .nil) hk7 Slc.nil)
  clear hB6 hb hk7
  generalize v6.heap.size = n7 at hSx ⊢
  refine (Bare_any _).mono ?_
  rintro e v8 ⟨b8, rfl, hs8, hb8⟩
  replace hA := Lib.hid (hA.out.below hb8)
  replace hBx := Lib.hid (hBx.out.below hb8)
  replace hCx := Lib.hid (hCx.out.below hb8)
  replace hSx := Lib.hid (hSx.out.below hb8)
  have hB8 := Lib.hid (hB7.out.trans (hb8.mono hB7.out.size))
  replace hs8 := Lib.hid hs8
  clear hb8 hB7
  go_upto_region 5 with fail
  obtain ⟨h1, h2, hb⟩ := two_new' v8 (.cells #[.slice (some ⟨b8, 0, none⟩) 1 1] 29) (.cells #[.int .i64 1, .bool false, .string ⟨#[]⟩, .bool false, .slice (some ⟨n7, 0, none⟩) 1 1, .slice (some ⟨v8.heap.size, 0, none⟩) 1 1, .slice none 0 0, .slice none 0 0, .slice none 0 0] 43)
  generalize (v8.alloc (.cells #[.slice (some ⟨b8, 0, none⟩) 1 1] 29)).alloc (.cells #[.int .i64 1, .bool false, .string ⟨#[]⟩, .bool false, .slice (some ⟨n7, 0, none⟩) 1 1, .slice (some ⟨v8.heap.size, 0, none⟩) 1 1, .slice none 0 0, .slice none 0 0, .slice none 0 0] 43) = v9 at h1 h2 hb ⊢
  replace hA := Lib.hid (hA.out.below hb)
  replace hBx := Lib.hid (hBx.out.below hb)
  replace hCx := Lib.hid (hCx.out.below hb)
  replace hSx := Lib.hid (hSx.out.below hb)
  replace hs8 := Lib.hid (hs8.out.below hb)
  have hB9 := Lib.hid (hB8.out.trans (hb.mono hB8.out.size))
  have hf := slc_row1 (T := 29) (x := wdF ⟨#[105, 102]⟩) h1 hs8.out
  have hDx := Lib.hid ((slc_node1 (T := 43) (S := .set ⟨#[120]⟩ .nil .nil) (W := .row (wdF ⟨#[105, 102]⟩) .nil) (R := .nil) (L := .nil) (C := .nil) h2 hSx.out hf Slc.nil Slc.nil Slc.nil : Slc v9 _ 1 exD))
  clear hB8 h1 h2 hb hf
  generalize v8.heap.size = n9 at hDx ⊢
  clear hs8 hSx
  obtain ⟨tA, tB, tC, tD⟩ := ty_ex
  obtain ⟨u1, u2, u3, u4, y1, y2, y3, y4⟩ := wt_ex
  have kA := Lib.hid (fun W (hb : Below v9.heap.size v9 W) => (by have h := Check_any tA (hA.out.below hb) u1 y1; rw [ck_a] at h; exact h : Calls Tryz.prog 9 #[.slice (some ⟨n3 + 1, 0, none⟩) 1 1] W fun e w' => e = .returned (.int .i64 0) ∧ Below W.heap.size W w'))
  have kB := Lib.hid (fun W (hb : Below v9.heap.size v9 W) => (by have h := Check_any tB (hBx.out.below hb) u2 y2; rw [ck_b] at h; exact h : Calls Tryz.prog 9 #[.slice (some ⟨n4 + 1, 0, none⟩) 1 1] W fun e w' => e = .returned (.int .i64 1) ∧ Below W.heap.size W w'))
  have kC := Lib.hid (fun W (hb : Below v9.heap.size v9 W) => (by have h := Check_any tC (hCx.out.below hb) u3 y3; rw [ck_c] at h; exact h : Calls Tryz.prog 9 #[.slice (some ⟨n6 + 1, 0, none⟩) 1 1] W fun e w' => e = .returned (.int .i64 1) ∧ Below W.heap.size W w'))
  have kD := Lib.hid (fun W (hb : Below v9.heap.size v9 W) => (by have h := Check_any tD (hDx.out.below hb) u4 y4; rw [ck_d] at h; exact h : Calls Tryz.prog 9 #[.slice (some ⟨n9 + 1, 0, none⟩) 1 1] W fun e w' => e = .returned (.int .i64 0) ∧ Below W.heap.size W w'))
  have kS := Lib.hid (fun W (hb : Below v9.heap.size v9 W) => (by have h := size_any tA (hA.out.below hb) u1; rw [sz_a.1] at h; exact h : Calls Tryz.prog 11 #[.slice (some ⟨n3 + 1, 0, none⟩) 1 1] W fun e w' => e = .returned (.int .i64 3) ∧ Below W.heap.size W w'))
  have kP := Lib.hid (fun W (hb : Below v9.heap.size v9 W) => (by have h := deep_any tA (hA.out.below hb) u1; rw [sz_a.2] at h; exact h : Calls Tryz.prog 13 #[.slice (some ⟨n3 + 1, 0, none⟩) 1 1] W fun e w' => e = .returned (.int .i64 2) ∧ Below W.heap.size W w'))
  have kE := Lib.hid (fun W (hb : Below v9.heap.size v9 W) => (by have h := Same_any tA tA (hA.out.below hb) (hA.out.below hb); rw [same_refl] at h; exact h : Calls Tryz.prog 16 #[.slice (some ⟨n3 + 1, 0, none⟩) 1 1, .slice (some ⟨n3 + 1, 0, none⟩) 1 1] W fun e w' => e = .returned (.bool true) ∧ Below W.heap.size W w'))
  have kF := Lib.hid (fun W (hb : Below v9.heap.size v9 W) => (by have h := Same_any tA tB (hA.out.below hb) (hBx.out.below hb); rw [same_ab] at h; exact h : Calls Tryz.prog 16 #[.slice (some ⟨n3 + 1, 0, none⟩) 1 1, .slice (some ⟨n4 + 1, 0, none⟩) 1 1] W fun e w' => e = .returned (.bool false) ∧ Below W.heap.size W w'))
  have kQ := Lib.hid (fun W => (by have h := Parameter_any ⟨#[49, 50]⟩ (by decide) W; rw [par_1] at h; exact h : Calls Tryz.prog 23 #[.string ⟨#[49, 50]⟩] W fun e w' => e = .returned (.bool true) ∧ w' = W))
  have kR := Lib.hid (fun W => (by have h := Parameter_any ⟨#[48, 49]⟩ (by decide) W; rw [par_2] at h; exact h : Calls Tryz.prog 23 #[.string ⟨#[48, 49]⟩] W fun e w' => e = .returned (.bool false) ∧ w' = W))
  have hc0 := Below.refl v9.heap.size v9
  clear hA hBx hCx hDx tA tB tC tD u1 u2 u3 u4 y1 y2 y3 y4
  go_wp2_with fail
  refine (kA.out _ hc0).mono ?_
  rintro e z0 ⟨rfl, hz⟩
  have hc1 := hc0.trans (hz.mono hc0.size)
  clear hz kA
  go_wp2_with fail
  refine (kS.out _ hc1).mono ?_
  rintro e z1 ⟨rfl, hz⟩
  have hc2 := hc1.trans (hz.mono hc1.size)
  clear hz kS
  go_wp2_with fail
  refine (kP.out _ hc2).mono ?_
  rintro e z2 ⟨rfl, hz⟩
  have hc3 := hc2.trans (hz.mono hc2.size)
  clear hz kP
  go_wp2_with fail
  refine (kB.out _ hc3).mono ?_
  rintro e z3 ⟨rfl, hz⟩
  have hc4 := hc3.trans (hz.mono hc3.size)
  clear hz kB
  go_wp2_with fail
  refine (kC.out _ hc4).mono ?_
  rintro e z4 ⟨rfl, hz⟩
  have hc5 := hc4.trans (hz.mono hc4.size)
  clear hz kC
  go_wp2_with fail
  refine (kD.out _ hc5).mono ?_
  rintro e z5 ⟨rfl, hz⟩
  have hc6 := hc5.trans (hz.mono hc5.size)
  clear hz kD
  go_wp2_with fail
  refine (kE.out _ hc6).mono ?_
  rintro e z6 ⟨rfl, hz⟩
  have hc7 := hc6.trans (hz.mono hc6.size)
  clear hz kE
  go_wp2_with fail
  refine (kF.out _ hc7).mono ?_
  rintro e z7 ⟨rfl, hz⟩
  have hc8 := hc7.trans (hz.mono hc7.size)
  clear hz kF
  replace hc8 := Lib.hid hc8
  clear hc0 hc1 hc2 hc3 hc4 hc5 hc6 hc7
  go_wp2_with fail
  refine (kQ.out _).mono ?_
  rintro e z8 ⟨rfl, hz⟩
  obtain rfl := hz.symm
  clear kQ hz
  go_wp2_with fail
  refine (kR.out _).mono ?_
  rintro e z9 ⟨rfl, hz⟩
  obtain rfl := hz.symm
  clear kR hz
  go_wp2
  go_ret
  exact ⟨rfl, hB9.out.trans (hc8.out.mono hB9.out.size)⟩
end
end Go.Proofs.YtmchfoedjajbdaaGreat
/-
  What makes a command one that may not be: a field that is not its own. Conditions: none.
-/
set_option linter.unusedSimpArgs false
set_option linter.unusedVariables false
namespace Go.Proofs.YtmchfoedjajbdaaGreat
open Go Go.RowKit Go.ChangeMaps

/-- Which fields, as one number. -/
def cfB (b1 b2 b3 b4 b5 b6 b7 b8 : Bool) : Int := bits BinOp.or IntKind.i64 (bits BinOp.or IntKind.i64 (bits BinOp.or IntKind.i64 (bits BinOp.or IntKind.i64 (bits BinOp.or IntKind.i64 (bits BinOp.or IntKind.i64 (bits BinOp.or IntKind.i64 (bitP b1 32) (bitP b2 64)) (bitP b3 128)) (bitP b4 256)) (bitP b5 512)) (bitP b6 1024)) (bitP b7 2048)) (bitP b8 4096)
def kindsL : List Int := [1, 2, 3, 4, 5, 6, 7, 8, 9, 10, 11, 12, 13]
theorem ok_at {f : F} {t : Nat} {m : Int} {a : Bool} (ht : Ty f t) (h1 : t ≠ 1) (h : okF f m a = true) : ∀ j, j ≤ f.len → okF (f.drop j) m a = true
  | 0, _ => h
  | j + 1, hj => by
    have k := ok_at ht h1 h j (by omega)
    rw [ok_row ht h1 j (by omega)] at k
    simp only [Bool.and_eq_true] at k
    exact k.2
/-- A command alone. -/
def nd1 (k : Int) (b : Bool) (n : ByteArray) (g : Bool) (S W R L C : F) : F := .node k b n g S W R L C .nil
section
variable {k : Int} {b g : Bool} {n : ByteArray} {S W R L C C' : F}
/-- It may be. -/
def Good1 (k : Int) (b : Bool) (n : ByteArray) (g : Bool) (S W R L C : F) : Prop := nodeOwn k b n g S W R L C = true ∧ okF S 2 false = true ∧ okF W 5 false = true ∧ okF R 3 false = true ∧ okF L 6 false = true ∧ okF C 4 false = true
theorem good_of {r : F} (h : okF (.node k b n g S W R L C r) 0 false = true) : Good1 k b n g S W R L C := by
  have h2 : ((nodeOwn k b n g S W R L C && (okF S 2 false && (okF W 5 false && (okF R 3 false && (okF L 6 false && okF C 4 false))))) && okF r 0 false) = true := h
  simp only [Bool.and_eq_true] at h2
  obtain ⟨⟨h1, h2, h3, h4, h5, h6⟩, _⟩ := h2
  exact ⟨h1, h2, h3, h4, h5, h6⟩
end
end Go.Proofs.YtmchfoedjajbdaaGreat
/-
  Parts of lists: the first so many; what a part may be, how great, how deep. Conditions: none.
-/
set_option linter.unusedSimpArgs false
set_option linter.unusedVariables false
namespace Go.Proofs.YtmchfoedjajbdaaGreat
open Go Go.RowKit Go.ChangeMaps

/-- The first so many. -/
def F.take : F → Nat → F
  | _, 0 => .nil
  | .nil, _ => .nil
  | .node k b n g S W R L C r, j + 1 => .node k b n g S W R L C (r.take j)
  | .piece k t o c K B r, j + 1 => .piece k t o c K B (r.take j)
  | .set n w r, j + 1 => .set n w (r.take j)
  | .redir fd k w r, j + 1 => .redir fd k w (r.take j)
  | .case W B r, j + 1 => .case W B (r.take j)
  | .row x r, j + 1 => .row x (r.take j)
theorem take0 (f : F) : f.take 0 = .nil := by cases f <;> rfl
theorem takeN (j : Nat) : F.nil.take j = .nil := by cases j <;> rfl
theorem len_take : ∀ (j : Nat) (f : F), j ≤ f.len → (f.take j).len = j
  | 0, f, _ => by rw [take0]; rfl
  | j + 1, f, h => by
    cases f with
    | nil => exact absurd h (Nat.not_succ_le_zero j)
    | _ => simp only [F.take, F.len] at h ⊢; rw [len_take j _ (by omega)]
theorem ty_take {t : Nat} : ∀ (j : Nat) (f : F), Ty f t → Ty (f.take j) t
  | 0, f, _ => by rw [take0]; trivial
  | j + 1, f, h => by
    cases f with
    | nil => trivial
    | node => obtain ⟨a, b, c, d, e, g, i, k⟩ := h; exact ⟨a, b, c, d, e, g, i, ty_take j _ k⟩
    | piece => obtain ⟨a, b, c, d, e, k⟩ := h; exact ⟨a, b, c, d, e, ty_take j _ k⟩
    | set => obtain ⟨a, b, k⟩ := h; exact ⟨a, b, ty_take j _ k⟩
    | redir => obtain ⟨a, b, c, d, k⟩ := h; exact ⟨a, b, c, d, ty_take j _ k⟩
    | case => obtain ⟨a, b, c, k⟩ := h; exact ⟨a, b, c, ty_take j _ k⟩
    | row => rcases h with ⟨a, b, k⟩ | ⟨a, b, k⟩; exact .inl ⟨a, b, ty_take j _ k⟩; exact .inr ⟨a, b, ty_take j _ k⟩
theorem wt_take : ∀ (j : Nat) (f : F), wt (f.take j) ≤ wt f
  | 0, f => by rw [take0]; exact Nat.zero_le _
  | j + 1, f => by
    cases f with
    | nil => exact Nat.le_refl _
    | _ => simp only [F.take, wt]; have := wt_take j (by assumption); omega
theorem sz_take : ∀ (j : Nat) (f : F), szF (f.take j) + szF (f.drop j) = szF f
  | 0, f => by rw [take0]; exact Nat.zero_add _
  | j + 1, f => by
    cases f with
    | nil =>
      have := sz_take j .nil
      rw [takeN] at this ⊢
      exact this
    | _ => rename_i r; have := sz_take j r; simp only [F.take, F.drop, F.tl, szF]; omega
theorem by_take : ∀ (j : Nat) (f : F), byF (f.take j) ≤ byF f
  | 0, f => by rw [take0]; exact Nat.zero_le _
  | j + 1, f => by
    cases f with
    | nil => exact Nat.le_refl _
    | _ => rename_i r; have := by_take j r; simp only [F.take, byF]; omega
theorem dp_take : ∀ (j : Nat) (f : F), dpF (f.take j) ≤ dpF f
  | 0, f => by rw [take0]; exact Nat.zero_le _
  | j + 1, f => by
    cases f with
    | nil => exact Nat.le_refl _
    | _ => rename_i r; have := dp_take j r; simp only [F.take, dpF]; omega
theorem rw_take {w : World} : ∀ (j : Nat) (f : F) (B o : Nat), Rw w f B o → Rw w (f.take j) B o
  | 0, f, _, _, _ => by rw [take0]; trivial
  | j + 1, f, B, o, h => by
    cases f with
    | nil => trivial
    | node => obtain ⟨a0, a1, a2, a3, a4, a5, a6, a7, a8, a9⟩ := rw_node.1 h; exact rw_node.2 ⟨a0, a1, a2, a3, a4, a5, a6, a7, a8, rw_take j _ _ _ a9⟩
    | piece => obtain ⟨a0, a1, a2, a3, a4, a5, a6⟩ := rw_piece.1 h; exact rw_piece.2 ⟨a0, a1, a2, a3, a4, a5, rw_take j _ _ _ a6⟩
    | set => obtain ⟨a0, a1, a2⟩ := rw_set.1 h; exact rw_set.2 ⟨a0, a1, rw_take j _ _ _ a2⟩
    | redir => obtain ⟨a0, a1, a2, a3⟩ := rw_redir.1 h; exact rw_redir.2 ⟨a0, a1, a2, rw_take j _ _ _ a3⟩
    | case => obtain ⟨a0, a1, a2⟩ := rw_case.1 h; exact rw_case.2 ⟨a0, a1, rw_take j _ _ _ a2⟩
    | row => obtain ⟨a0, a1⟩ := rw_row.1 h; exact rw_row.2 ⟨a0, rw_take j _ _ _ a1⟩
theorem slc_take {w : World} {A : Option Addr} {c j : Nat} {f : F} (hj : j ≤ f.len) (h : Slc w A c f) : Slc w A c (f.take j) := by
  refine ⟨by rw [len_take j f hj]; exact Nat.le_trans hj h.1, h.2.1, fun hn => ?_⟩
  rw [len_take j f hj] at hn
  obtain ⟨B, o, e, hl, hr⟩ := h.2.2 (by omega)
  exact ⟨B, o, e, hl, rw_take j f B o hr⟩
theorem ok_take {m : Int} {a : Bool} : ∀ (j : Nat) (f : F), Ty f 0 → okF f m a = true → okF (f.take j) m a = true
  | 0, f, _, _ => by rw [take0]; rfl
  | j + 1, f, ht, h => by
    cases f with
    | nil => rfl
    | node k b n g S W R L C r =>
      have h2 : ((nodeOwn k b n g S W R L C && (okF S 2 a && (okF W 5 a && (okF R 3 a && (okF L 6 a && okF C 4 a))))) && okF r m a) = true := h
      rw [Bool.and_eq_true] at h2
      show ((nodeOwn k b n g S W R L C && (okF S 2 a && (okF W 5 a && (okF R 3 a && (okF L 6 a && okF C 4 a))))) && okF (r.take j) m a) = true
      rw [Bool.and_eq_true]
      exact ⟨h2.1, ok_take j r ht.2.2.2.2.2.2.2 h2.2⟩
    | piece => exact absurd ht.1 (by decide)
    | set => exact absurd ht.1 (by decide)
    | redir => exact absurd ht.1 (by decide)
    | case => exact absurd ht.1 (by decide)
    | row => rcases ht with h | h <;> exact absurd h.1 (by decide)
theorem sz_drop (j : Nat) (f : F) : szF (f.drop j) ≤ szF f := by have := sz_take j f; omega
/-- A list that may be, less than another one. -/
structure PartOf (x f : F) : Prop where
  ty : Ty x 0
  wt : wt x ≤ wt f
  by' : byF x ≤ byF f
  ok : okF x 0 false = true
  sz : szF x < szF f
  dp : dpF x < dpF f
section
variable {k : Int} {b g : Bool} {n : ByteArray} {S W R L C r f x y r' : F} {i j : Nat}
theorem part_list (ht : Ty f 0) (h : okF f 0 false = true) (hi : i < f.len) (hd : f.drop i = .node k b n g S W R L C r) (hj : j < L.len) (he : L.drop j = .row x r') : PartOf x f := by
  have ho := ok_at ht (by decide) h i (by omega)
  have htd := ty_drop i ht
  rw [hd] at ho htd
  obtain ⟨_, _, _, _, _, htL, _⟩ := htd
  have hoL := (good_of ho).2.2.2.2.1
  have hoj := ok_at htL (by decide) hoL j (by omega)
  have htj := ty_drop j htL
  rw [he] at hoj htj
  have w1 := wt_drop i f; have w2 := wt_drop j L
  have b1 := by_drop i f; have b2 := by_drop j L
  have s1 := sz_drop i f; have s2 := sz_drop j L
  have d1 := dpF_drop i f; have d2 := dpF_drop j L
  rw [hd] at w1 b1 s1 d1
  rw [he] at w2 b2 s2 d2
  simp only [wt] at w1 w2
  simp only [byF] at b1 b2
  simp only [szF] at s1 s2
  simp only [dpF] at d1 d2
  have hox : okF x 0 false = true := by
    have h2 : ((if (6 : Int) = 5 then wholeH x && okF x 1 false else okF x 0 false) && okF r' 6 false) = true := hoj
    rw [if_neg (by decide), Bool.and_eq_true] at h2
    exact h2.1
  refine ⟨?_, by omega, by omega, hox, by omega, by omega⟩
  rcases htj with h | h
  · exact absurd h.1 (by decide)
  · exact h.2.1
theorem part_case (ht : Ty f 0) (h : okF f 0 false = true) (hi : i < f.len) (hd : f.drop i = .node k b n g S W R L C r) (hj : j < C.len) (he : C.drop j = .case y x r') : PartOf x f := by
  have ho := ok_at ht (by decide) h i (by omega)
  have htd := ty_drop i ht
  rw [hd] at ho htd
  obtain ⟨_, _, _, _, _, _, htC, _⟩ := htd
  have hoC := (good_of ho).2.2.2.2.2
  have hoj := ok_at htC (by decide) hoC j (by omega)
  have htj := ty_drop j htC
  rw [he] at hoj htj
  have w1 := wt_drop i f; have w2 := wt_drop j C
  have b1 := by_drop i f; have b2 := by_drop j C
  have s1 := sz_drop i f; have s2 := sz_drop j C
  have d1 := dpF_drop i f; have d2 := dpF_drop j C
  rw [hd] at w1 b1 s1 d1
  rw [he] at w2 b2 s2 d2
  simp only [wt] at w1 w2
  simp only [byF] at b1 b2
  simp only [szF] at s1 s2
  simp only [dpF] at d1 d2
  have hox : okF x 0 false = true := by
    have h2 : ((decide (0 < y.len) && (okF y 5 false && okF x 0 false)) && okF r' 4 false) = true := hoj
    simp only [Bool.and_eq_true] at h2
    exact h2.1.2.2
  exact ⟨htj.2.2.1, by omega, by omega, hox, by omega, by omega⟩
end
section
variable {W : World}
set_option maxRecDepth 100000 in
set_option maxHeartbeats 16000000 in
/-- The law's part. -/
theorem part_any {x f : F} {A B : Option Addr} {c d : Nat} (hp : PartOf x f) (ht : Ty f 0) (hs : Slc W A c x) (hf : Slc W B d f) (hw : wt f ≤ 1048576) (hy : byF f ≤ 1000000) (hd : dpF f ≤ 20) :
    Calls Tryz.prog 20 #[.slice A x.len c, .slice B f.len d] W fun e w' => e = .returned (.bool true) ∧ Below W.heap.size W w' := by
  have c1 := fun w (h : Below W.heap.size W w) => Check_any hp.ty (hs.below h) (Nat.le_trans hp.wt (by omega)) (Nat.le_trans hp.by' hy)
  have c2 := fun w (h : Below W.heap.size W w) => size_any hp.ty (hs.below h) (Nat.le_trans hp.wt (by omega))
  have c3 := fun w (h : Below W.heap.size W w) => size_any ht (hf.below h) (by omega)
  have c4 := fun w (h : Below W.heap.size W w) => deep_any hp.ty (hs.below h) (Nat.le_trans hp.wt (by omega))
  have c5 := fun w (h : Below W.heap.size W w) => deep_any ht (hf.below h) (by omega)
  have hck : checkP x = 0 := by
    unfold checkP
    rw [if_neg (by have := hp.dp; omega), hp.ok]
    rfl
  rw [hck] at c1
  have g1 := hp.sz
  have g2 := hp.dp
  generalize szF x = s1 at *
  generalize szF f = s2 at *
  generalize dpF x = d1 at *
  generalize dpF f = d2 at *
  generalize x.len = m1 at *
  generalize f.len = m2 at *
  have g3 : (s1 : Int) < (s2 : Int) := by omega
  have g4 : (d1 : Int) < (d2 : Int) := by omega
  clear hp ht hs hf hw hy hd hck g1 g2
  replace c1 := Lib.hid c1
  replace c2 := Lib.hid c2
  replace c3 := Lib.hid c3
  replace c4 := Lib.hid c4
  replace c5 := Lib.hid c5
  have h0 := Below.refl W.heap.size W
  go_enter Tryz.func20, Tryz.ntmps20
  go_wp2_with fail
  refine (c1.out _ h0).mono ?_
  rintro e w1 ⟨rfl, hq⟩
  have h1 := h0.trans (hq.mono h0.size)
  clear hq h0 c1
  go_wp2_with fail
  refine (c2.out _ h1).mono ?_
  rintro e w2 ⟨rfl, hq⟩
  have h2 := h1.trans (hq.mono h1.size)
  clear hq h1 c2
  go_wp2_with fail
  refine (c3.out _ h2).mono ?_
  rintro e w3 ⟨rfl, hq⟩
  have h3 := h2.trans (hq.mono h2.size)
  clear hq h2 c3
  go_wp2_with fail
  refine (c4.out _ h3).mono ?_
  rintro e w4 ⟨rfl, hq⟩
  have h4 := h3.trans (hq.mono h3.size)
  clear hq h3 c4
  go_wp2_with fail
  refine (c5.out _ h4).mono ?_
  rintro e w5 ⟨rfl, hq⟩
  have h5 := h4.trans (hq.mono h4.size)
  clear hq h4 c5
  have hE := Lib.hid h5
  clear h5
  go_wp2
  go_ret
  exact ⟨rfl, hE.out⟩
end
end Go.Proofs.YtmchfoedjajbdaaGreat
