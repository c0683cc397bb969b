/-
  whelkref12's Same, Words, rows, one: whether two rows are the same. Conditions: none.
-/
import Derived.Test.YtmchfoedjajbdaaGreatZs12
set_option linter.unusedSimpArgs false
set_option linter.unusedVariables false
namespace Go.Proofs.YtmchfoedjajbdaaGreat
open Go Go.RowKit

/-- What is asked of rows of no more than so much. -/
def RSameOk (n : Nat) : Prop :=
  (∀ f, wt f < n → Ty f 0 → ∀ f' W A c A' c', Ty f' 0 → Slc W A c f → Slc W A' c' f' → Calls Tryz.prog 17 #[.slice A f.len c, .slice A' f'.len c'] W fun e w' => e = .returned (.bool (sameF f f')) ∧ Below W.heap.size W w') ∧
  (∀ f, wt f < n → Ty f 1 → ∀ f' W A c A' c', Ty f' 1 → Slc W A c f → Slc W A' c' f' → Calls Tryz.prog 19 #[.slice A f.len c, .slice A' f'.len c'] W fun e w' => e = .returned (.bool (sameF f f')) ∧ Below W.heap.size W w')
section
variable {n0 : Nat} {w : World} {A A' : Option Addr} {c c' : Nat} {f f' g g' : F}
set_option maxRecDepth 100000 in
set_option maxHeartbeats 8000000 in
theorem r_rows {cap0 cap0' : Nat} (hn : RSameOk n0) (ht : Ty f 5) (ht' : Ty f' 5) (hw : wt f ≤ n0) (h : Slc w A cap0 f) (h' : Slc w A' cap0' f') :
    Calls Tryz.prog 56 #[.slice A f.len cap0, .slice A' f'.len cap0'] w fun e w' => e = .returned (.bool (sameF f f')) ∧ Below w.heap.size w w' := by
  obtain ⟨N, hN⟩ : ∃ N, f.len = N := ⟨_, rfl⟩
  obtain ⟨N', hN'⟩ : ∃ N, f'.len = N := ⟨_, rfl⟩
  obtain ⟨X, hX⟩ : ∃ X, sameF f f' = X := ⟨_, rfl⟩
  have hm := h.1
  have hcm := h.2.1
  have hm' := h'.1
  have hcm' := h'.2.1
  have hX0 : Hid (X = sameF (f.drop 0) (f'.drop 0)) := Lib.hid hX.symm
  rw [hN, hN', hX]
  rw [hN] at hm
  rw [hN'] at hm'
  unfold maxLen at hcm hcm'
  have hB0 : Hid (Below w.heap.size w w) := Lib.hid (Below.refl _ _)
  replace h := Lib.hid h
  replace h' := Lib.hid h'
  replace ht := Lib.hid ht
  replace ht' := Lib.hid ht'
  replace hw := Lib.hid hw
  replace hX := Lib.hid hX
  replace hN := Lib.hid hN
  replace hN' := Lib.hid hN'
  by_cases hne : N = N'
  · subst hne
    have hnn : ((N : Int) != (N : Int)) = false := bne_self_eq_false _
    go_enter Tryz.func56, Tryz.ntmps56
    go_wp2
    go_loopw [5] (fun iv wr => ∃ j : Nat, j ≤ N ∧ iv = .int .i64 (j : Int) ∧ Hid (Below w.heap.size w wr) ∧ Hid (X = sameF (f.drop j) (f'.drop j))) (fun iv _ => N - (intOf iv).toNat)
    case atStart => exact ⟨0, Nat.zero_le _, rfl, hB0, hX0⟩
    case round =>
      clear hB0 hX0
      obtain ⟨j, hj, rfl, hB, hs⟩ := hrel
      by_cases hlt : j < N
      · skip
        have hj1 : (0 : Int) ≤ (j : Int) := by omega
        have hj2 : (j : Int) < (N : Int) := by omega
        have hgo := hs.out.trans (same_nx (hN.out.trans hN'.out.symm) (by rw [hN.out]; exact hlt))
        obtain ⟨B, o, rfl, hBl, hrw⟩ := h.out.2.2 (by rw [hN.out]; omega)
        obtain ⟨B', o', rfl, hBl', hrw'⟩ := h'.out.2.2 (by rw [hN'.out]; omega)
        have hrd := rw_drop j ht.out (by rw [hN.out]; omega) hrw
        have hrd' := rw_drop j ht'.out (by rw [hN'.out]; omega) hrw'
        have htd := ty_drop j ht.out
        have htd' := ty_drop j ht'.out
        have hwd := Nat.le_trans (wt_drop j f) hw.out
        have hpd : 0 < (f.drop j).len := by rw [drop_len, hN.out]; omega
        have hpd' : 0 < (f'.drop j).len := by rw [drop_len, hN'.out]; omega
        obtain ⟨x, r, hfd, htx, _⟩ := at_word htd hpd
        obtain ⟨x', r', hfd', htx', _⟩ := at_word htd' hpd'
        rw [hfd] at hrd hwd hgo
        rw [hfd'] at hrd' hgo
        rw [show szT 5 = 1 from rfl, Nat.mul_one] at hrd hrd'
        simp only [wt] at hwd
        obtain ⟨⟨Ax, cx, e0, hsx⟩, _⟩ := rw_row.1 (hrd.below hB.out hBl)
        obtain ⟨⟨Ax', cx', e0', hsx'⟩, _⟩ := rw_row.1 (hrd'.below hB.out hBl')
        have hl : B < wr.heap.size := Nat.lt_of_lt_of_le hBl hB.out.size
        have hl' : B' < wr.heap.size := Nat.lt_of_lt_of_le hBl' hB.out.size
        have hgo : X = ((sameF x x') && sameF (f.drop (j + 1)) (f'.drop (j + 1))) := hgo
        have hcx := fun W (hb : Below wr.heap.size wr W) => hn.2 x (by omega) htx x' W Ax cx Ax' cx' htx' (hsx.below hb) (hsx'.below hb)
        generalize sameF x x' = Qx at hcx hgo
        generalize x.len = mx at hcx e0
        generalize x'.len = mx' at hcx e0'
        replace hcx := Lib.hid hcx
        have hS := fun W (hb : Below wr.heap.size wr W) => (⟨cell_below hb hl e0, cell_below hb hl' e0'⟩ : W.cell? ⟨B, o + j, none⟩ = some (.slice Ax mx cx) ∧ W.cell? ⟨B', o' + j, none⟩ = some (.slice Ax' mx' cx'))
        replace hS := Lib.hid hS
        replace hgo := Lib.hid hgo
        have hend := Lib.hid (fun nq => hB.out.trans ((drewN_below wr nq).mono hB.out.size))
        clear hrw hrw' hrd hrd' htd htd' hwd hpd hpd' hs hBl hBl' hfd hfd' htx htx' hsx hsx' e0 e0'
        clear hl hl'
        go_upto_region 6 with fail
        have hb0 := drewN_below wr 1
        have hk0 := hS.out wr.drew hb0
        cases Qx with
        | false => as_aux_lemma =>
          have hsE : X = false := by rw [hgo.out]; simp
          clear hgo
          go_region_held3 (fun W => W.cell? ⟨B, o + j, none⟩ = some (.slice Ax mx cx) ∧ W.cell? ⟨B', o' + j, none⟩ = some (.slice Ax' mx' cx'))
            (first | go_keep | exact hk0 | exact hk1)
            ((go_at_call 19; refine (hcx.out _ hb0).mono ?_; rintro e w5 ⟨rfl, hc⟩; have hb1 := hb0.trans (hc.mono hb0.size); have hk1 := hS.out w5 hb1; clear hc))
          have hBE := Lib.hid (hB.out.trans (hb1.mono hB.out.size))
          have hWR := Lib.hid hb1
          clear hk0 hb0 hk1 hb1 hS hend hcx
          subst hsE
          go_wp2
          go_ret
          exact ⟨rfl, hBE.out⟩
        | true =>
          have hsE : Hid (X = sameF (f.drop (j + 1)) (f'.drop (j + 1))) := Lib.hid (by rw [hgo.out]; simp)
          clear hgo
          go_region_held3 (fun W => W.cell? ⟨B, o + j, none⟩ = some (.slice Ax mx cx) ∧ W.cell? ⟨B', o' + j, none⟩ = some (.slice Ax' mx' cx'))
            (first | go_keep | exact hk0 | exact hk1)
            ((go_at_call 19; refine (hcx.out _ hb0).mono ?_; rintro e w5 ⟨rfl, hc⟩; have hb1 := hb0.trans (hc.mono hb0.size); have hk1 := hS.out w5 hb1; clear hc))
          have hBE := Lib.hid (hB.out.trans (hb1.mono hB.out.size))
          have hWR := Lib.hid hb1
          clear hk0 hb0 hk1 hb1 hS hend hcx
          go_wp2
          go_roundw
          case rel => exact ⟨j + 1, by omega, by go_num, hBE, hsE⟩
          case measure => simp [intOf]; omega
      · obtain rfl : j = N := by omega
        have hj3 : ¬ (j : Int) < (j : Int) := by omega
        have hsE : X = true := hs.out.trans (same_nd (hN.out.trans hN'.out.symm) hN.out.symm)
        subst hsE
        clear hs
        go_wp2
        go_ret
        exact ⟨rfl, hB.out⟩
  · have hsE : X = false := hX.out.symm.trans (same_len _ _ (by rw [hN.out, hN'.out]; exact hne))
    subst hsE
    have hn2 : ((N : Int) == (N' : Int)) = false := beq_eq_false_iff_ne.2 (by omega)
    have hn3 : ((N : Int) != (N' : Int)) = true := bne_iff_ne.2 (by omega)
    go_enter Tryz.func56, Tryz.ntmps56
    go_wp2
    go_ret
    exact ⟨rfl, hB0.out⟩
set_option maxRecDepth 100000 in
set_option maxHeartbeats 8000000 in
theorem r_pieces {cap0 cap0' : Nat} (hn : RSameOk n0) (ht : Ty f 1) (ht' : Ty f' 1) (hw : wt f ≤ n0) (h : Slc w A cap0 f) (h' : Slc w A' cap0' f') :
    Calls Tryz.prog 19 #[.slice A f.len cap0, .slice A' f'.len cap0'] w fun e w' => e = .returned (.bool (sameF f f')) ∧ Below w.heap.size w w' := by
  obtain ⟨N, hN⟩ : ∃ N, f.len = N := ⟨_, rfl⟩
  obtain ⟨N', hN'⟩ : ∃ N, f'.len = N := ⟨_, rfl⟩
  obtain ⟨X, hX⟩ : ∃ X, sameF f f' = X := ⟨_, rfl⟩
  have hm := h.1
  have hcm := h.2.1
  have hm' := h'.1
  have hcm' := h'.2.1
  have hX0 : Hid (X = sameF (f.drop 0) (f'.drop 0)) := Lib.hid hX.symm
  rw [hN, hN', hX]
  rw [hN] at hm
  rw [hN'] at hm'
  unfold maxLen at hcm hcm'
  have hB0 : Hid (Below w.heap.size w w) := Lib.hid (Below.refl _ _)
  replace h := Lib.hid h
  replace h' := Lib.hid h'
  replace ht := Lib.hid ht
  replace ht' := Lib.hid ht'
  replace hw := Lib.hid hw
  replace hX := Lib.hid hX
  replace hN := Lib.hid hN
  replace hN' := Lib.hid hN'
  by_cases hne : N = N'
  · subst hne
    have hnn : ((N : Int) != (N : Int)) = false := bne_self_eq_false _
    go_enter Tryz.func19, Tryz.ntmps19
    go_wp2
    go_loopw [5] (fun iv wr => ∃ j : Nat, j ≤ N ∧ iv = .int .i64 (j : Int) ∧ Hid (Below w.heap.size w wr) ∧ Hid (X = sameF (f.drop j) (f'.drop j))) (fun iv _ => N - (intOf iv).toNat)
    case atStart => exact ⟨0, Nat.zero_le _, rfl, hB0, hX0⟩
    case round =>
      clear hB0 hX0
      obtain ⟨j, hj, rfl, hB, hs⟩ := hrel
      by_cases hlt : j < N
      · skip
        have hj1 : (0 : Int) ≤ (j : Int) := by omega
        have hj2 : (j : Int) < (N : Int) := by omega
        have hgo := hs.out.trans (same_nx (hN.out.trans hN'.out.symm) (by rw [hN.out]; exact hlt))
        obtain ⟨B, o, rfl, hBl, hrw⟩ := h.out.2.2 (by rw [hN.out]; omega)
        obtain ⟨B', o', rfl, hBl', hrw'⟩ := h'.out.2.2 (by rw [hN'.out]; omega)
        have hrd := rw_drop j ht.out (by rw [hN.out]; omega) hrw
        have hrd' := rw_drop j ht'.out (by rw [hN'.out]; omega) hrw'
        have htd := ty_drop j ht.out
        have htd' := ty_drop j ht'.out
        have hwd := Nat.le_trans (wt_drop j f) hw.out
        have hpd : 0 < (f.drop j).len := by rw [drop_len, hN.out]; omega
        have hpd' : 0 < (f'.drop j).len := by rw [drop_len, hN'.out]; omega
        obtain ⟨k, t, p, c, K, Y, r, hfd, _, _, htK, htY, _⟩ := at_piece htd hpd
        obtain ⟨k', t', p', c', K', Y', r', hfd', _, _, htK', htY', _⟩ := at_piece htd' hpd'
        rw [hfd] at hrd hwd hgo
        rw [hfd'] at hrd' hgo
        rw [show szT 1 = 6 from rfl] at hrd hrd'
        simp only [wt] at hwd
        obtain ⟨e0, e1, e2, e3, ⟨AK, cK, e4, hsK⟩, ⟨AY, cY, e5, hsY⟩, _⟩ := rw_piece.1 (hrd.below hB.out hBl)
        obtain ⟨e0', e1', e2', e3', ⟨AK', cK', e4', hsK'⟩, ⟨AY', cY', e5', hsY'⟩, _⟩ := rw_piece.1 (hrd'.below hB.out hBl')
        have hl : B < wr.heap.size := Nat.lt_of_lt_of_le hBl hB.out.size
        have hl' : B' < wr.heap.size := Nat.lt_of_lt_of_le hBl' hB.out.size
        have hgo : X = ((decide (k = k') && decide (t = t') && decide (p = p') && (c == c') && sameF K K' && sameF Y Y') && sameF (f.drop (j + 1)) (f'.drop (j + 1))) := hgo
        have hcK := fun W (hb : Below wr.heap.size wr W) => hn.2 K (by omega) htK K' W AK cK AK' cK' htK' (hsK.below hb) (hsK'.below hb)
        generalize sameF K K' = QK at hcK hgo
        generalize K.len = mK at hcK e4
        generalize K'.len = mK' at hcK e4'
        replace hcK := Lib.hid hcK
        have hcY := fun W (hb : Below wr.heap.size wr W) => hn.1 Y (by omega) htY Y' W AY cY AY' cY' htY' (hsY.below hb) (hsY'.below hb)
        generalize sameF Y Y' = QY at hcY hgo
        generalize Y.len = mY at hcY e5
        generalize Y'.len = mY' at hcY e5'
        replace hcY := Lib.hid hcY
        have hS := fun W (hb : Below wr.heap.size wr W) => (⟨cell_below hb hl e0, cell_below hb hl e1, cell_below hb hl e2, cell_below hb hl e3, cell_below hb hl e4, cell_below hb hl e5, cell_below hb hl' e0', cell_below hb hl' e1', cell_below hb hl' e2', cell_below hb hl' e3', cell_below hb hl' e4', cell_below hb hl' e5'⟩ : W.cell? ⟨B, o + j * 6, none⟩ = some (.int .i64 k) ∧ W.cell? ⟨B, o + j * 6 + 1, none⟩ = some (.string t) ∧ W.cell? ⟨B, o + j * 6 + 2, none⟩ = some (.int .i64 p) ∧ W.cell? ⟨B, o + j * 6 + 3, none⟩ = some (.bool c) ∧ W.cell? ⟨B, o + j * 6 + 4, none⟩ = some (.slice AK mK cK) ∧ W.cell? ⟨B, o + j * 6 + 5, none⟩ = some (.slice AY mY cY) ∧ W.cell? ⟨B', o' + j * 6, none⟩ = some (.int .i64 k') ∧ W.cell? ⟨B', o' + j * 6 + 1, none⟩ = some (.string t') ∧ W.cell? ⟨B', o' + j * 6 + 2, none⟩ = some (.int .i64 p') ∧ W.cell? ⟨B', o' + j * 6 + 3, none⟩ = some (.bool c') ∧ W.cell? ⟨B', o' + j * 6 + 4, none⟩ = some (.slice AK' mK' cK') ∧ W.cell? ⟨B', o' + j * 6 + 5, none⟩ = some (.slice AY' mY' cY'))
        replace hS := Lib.hid hS
        replace hgo := Lib.hid hgo
        have hend := Lib.hid (fun nq => hB.out.trans ((drewN_below wr nq).mono hB.out.size))
        clear hrw hrw' hrd hrd' htd htd' hwd hpd hpd' hs hBl hBl' hfd hfd' htK htK' hsK hsK' htY htY' hsY hsY' e0 e0' e1 e1' e2 e2' e3 e3' e4 e4' e5 e5'
        clear hl hl'
        by_cases hk : k = k'
        rotate_left
        · as_aux_lemma =>
            have hsE : X = false := by rw [hgo.out]; simp [hk]
            clear hgo
            have qk : (k == k') = false := beq_eq_false_iff_ne.2 hk
            have rk : (k != k') = true := bne_iff_ne.2 hk
            clear hk hcK hcY
            have hk0 := hS.out wr (Below.refl _ _)
            have hl : B < wr.heap.size := World.block_lt_of_cell? wr _ hk0.1
            go_upto_region 6 with fail
            simp only [List.append_eq, List.cons_append, List.nil_append]
            go_quiet (fail)
            clear hk0 hl
            subst hsE
            go_wp2
            go_ret
            exact ⟨rfl, (hend.out _)⟩
        subst hk
        have qk : (k == k) = true := beq_self_eq_true _
        have rk : (k != k) = false := bne_self_eq_false _
        by_cases ht : t = t'
        rotate_left
        · as_aux_lemma =>
            have hsE : X = false := by rw [hgo.out]; simp [ht]
            clear hgo
            have qt := str_neT ht
            have rt := str_neT' ht
            clear ht hcK hcY
            have hk0 := hS.out wr (Below.refl _ _)
            have hl : B < wr.heap.size := World.block_lt_of_cell? wr _ hk0.1
            go_upto_region 6 with fail
            simp only [List.append_eq, List.cons_append, List.nil_append]
            go_quiet (fail)
            clear hk0 hl
            subst hsE
            go_wp2
            go_ret
            exact ⟨rfl, (hend.out _)⟩
        have qt := str_eqT ht
        subst ht
        by_cases hp : p = p'
        rotate_left
        · as_aux_lemma =>
            have hsE : X = false := by rw [hgo.out]; simp [hp]
            clear hgo
            have qp : (p == p') = false := beq_eq_false_iff_ne.2 hp
            have rp : (p != p') = true := bne_iff_ne.2 hp
            clear hp hcK hcY
            have hk0 := hS.out wr (Below.refl _ _)
            have hl : B < wr.heap.size := World.block_lt_of_cell? wr _ hk0.1
            go_upto_region 6 with fail
            simp only [List.append_eq, List.cons_append, List.nil_append]
            go_quiet (fail)
            clear hk0 hl
            subst hsE
            go_wp2
            go_ret
            exact ⟨rfl, (hend.out _)⟩
        subst hp
        have qp : (p == p) = true := beq_self_eq_true _
        have rp : (p != p) = false := bne_self_eq_false _
        by_cases hc : c = c'
        rotate_left
        · as_aux_lemma =>
            have hsE : X = false := by rw [hgo.out]; simp [hc]
            clear hgo
            have qc : (c == c') = false := by simpa using hc
            have rc : (c != c') = true := by simpa using hc
            clear hc hcK hcY
            have hk0 := hS.out wr (Below.refl _ _)
            have hl : B < wr.heap.size := World.block_lt_of_cell? wr _ hk0.1
            go_upto_region 6 with fail
            simp only [List.append_eq, List.cons_append, List.nil_append]
            go_quiet (fail)
            clear hk0 hl
            subst hsE
            go_wp2
            go_ret
            exact ⟨rfl, (hend.out _)⟩
        subst hc
        have qc : (c == c) = true := beq_self_eq_true _
        have rc : (c != c) = false := bne_self_eq_false _
        go_upto_region 6 with fail
        simp only [List.append_eq, List.cons_append, List.nil_append]
        have hb0 := drewN_below wr 1
        have hk0 := hS.out wr.drew hb0
        cases QK with
        | false => as_aux_lemma =>
          have hsE : X = false := by rw [hgo.out]; simp
          clear hgo
          refine wp_region_held_drew (S := fun W => W.cell? ⟨B, o + j * 6, none⟩ = some (.int .i64 k) ∧ W.cell? ⟨B, o + j * 6 + 1, none⟩ = some (.string t) ∧ W.cell? ⟨B, o + j * 6 + 2, none⟩ = some (.int .i64 p) ∧ W.cell? ⟨B, o + j * 6 + 3, none⟩ = some (.bool c) ∧ W.cell? ⟨B, o + j * 6 + 4, none⟩ = some (.slice AK mK cK) ∧ W.cell? ⟨B, o + j * 6 + 5, none⟩ = some (.slice AY mY cY) ∧ W.cell? ⟨B', o' + j * 6, none⟩ = some (.int .i64 k) ∧ W.cell? ⟨B', o' + j * 6 + 1, none⟩ = some (.string t) ∧ W.cell? ⟨B', o' + j * 6 + 2, none⟩ = some (.int .i64 p) ∧ W.cell? ⟨B', o' + j * 6 + 3, none⟩ = some (.bool c) ∧ W.cell? ⟨B', o' + j * 6 + 4, none⟩ = some (.slice AK' mK' cK') ∧ W.cell? ⟨B', o' + j * 6 + 5, none⟩ = some (.slice AY' mY' cY')) (by kernel_rfl) hk0 (fun _ => ?_)
          refine wpAnyH_take (i := 0) (oi := { dst := some 17, op := Op.move (Operand.tmp 0), type := 28, pos := "ref.go:93", after := #[], guard := none }) (v := .slice (some ⟨B, o, none⟩) N cap0) rfl (by kernel_rfl) (by kernel_rfl) (by kernel_rfl) (fun _ _ _ h => h) (Or.inl ⟨by rfl, ?_⟩) hk0 ?_
          · intro W hW
            obtain ⟨k0, k1, k2, k3, k4, k5, k6, k7, k8, k9, k10, k11⟩ := hW
            clear hk0
            go_simp
            try (intro hx; exfalso; omega)
          try simp only [Act.put, List.setIfInBounds_toArray, List.set_cons_zero, List.set_cons_succ]
          refine wpAnyH_take (i := 1) (oi := { dst := some 18, op := Op.move (Operand.tmp 5), type := 3, pos := "ref.go:93", after := #[], guard := none }) (v := .int .i64 (j : Int)) rfl (by kernel_rfl) (by kernel_rfl) (by kernel_rfl) (fun _ _ _ h => h) (Or.inl ⟨by rfl, ?_⟩) hk0 ?_
          · intro W hW
            obtain ⟨k0, k1, k2, k3, k4, k5, k6, k7, k8, k9, k10, k11⟩ := hW
            clear hk0
            go_simp
            try (intro hx; exfalso; omega)
          try simp only [Act.put, List.setIfInBounds_toArray, List.set_cons_zero, List.set_cons_succ]
          refine wpAnyH_take (i := 2) (oi := { dst := some 19, op := Op.indexAddr 28 (Operand.tmp 17) (Operand.tmp 18), type := 0, pos := "ref.go:93", after := #[{ on := 0, ground := Ground.data }, { on := 1, ground := Ground.data }], guard := none }) (v := .pointer (some ⟨B, o + j * 6, none⟩)) rfl (by kernel_rfl) (by kernel_rfl) (by kernel_rfl) (fun _ _ _ h => h) (Or.inl ⟨by rfl, ?_⟩) hk0 ?_
          · intro W hW
            obtain ⟨k0, k1, k2, k3, k4, k5, k6, k7, k8, k9, k10, k11⟩ := hW
            clear hk0
            go_simp
            try (intro hx; exfalso; omega)
          try simp only [Act.put, List.setIfInBounds_toArray, List.set_cons_zero, List.set_cons_succ]
          refine wpAnyH_take (i := 3) (oi := { dst := some 20, op := Op.fieldAddr 66 (Operand.tmp 19) 0, type := 0, pos := "ref.go:93", after := #[{ on := 2, ground := Ground.data }], guard := none }) (v := .pointer (some ⟨B, o + j * 6, none⟩)) rfl (by kernel_rfl) (by kernel_rfl) (by kernel_rfl) (fun _ _ _ h => h) (Or.inl ⟨by rfl, ?_⟩) hk0 ?_
          · intro W hW
            obtain ⟨k0, k1, k2, k3, k4, k5, k6, k7, k8, k9, k10, k11⟩ := hW
            clear hk0
            go_simp
            try (intro hx; exfalso; omega)
          try simp only [Act.put, List.setIfInBounds_toArray, List.set_cons_zero, List.set_cons_succ]
          refine wpAnyH_take (i := 4) (oi := { dst := some 21, op := Op.load 3 (Operand.tmp 20), type := 3, pos := "ref.go:93", after := #[{ on := 3, ground := Ground.data }], guard := none }) (v := .int .i64 k) rfl (by kernel_rfl) (by kernel_rfl) (by kernel_rfl) (fun _ _ _ h => h) (Or.inl ⟨by rfl, ?_⟩) hk0 ?_
          · intro W hW
            obtain ⟨k0, k1, k2, k3, k4, k5, k6, k7, k8, k9, k10, k11⟩ := hW
            clear hk0
            go_simp
            try (intro hx; exfalso; omega)
          try simp only [Act.put, List.setIfInBounds_toArray, List.set_cons_zero, List.set_cons_succ]
          refine wpAnyH_take (i := 5) (oi := { dst := some 22, op := Op.move (Operand.tmp 1), type := 28, pos := "ref.go:93", after := #[], guard := none }) (v := .slice (some ⟨B', o', none⟩) N cap0') rfl (by kernel_rfl) (by kernel_rfl) (by kernel_rfl) (fun _ _ _ h => h) (Or.inl ⟨by rfl, ?_⟩) hk0 ?_
          · intro W hW
            obtain ⟨k0, k1, k2, k3, k4, k5, k6, k7, k8, k9, k10, k11⟩ := hW
            clear hk0
            go_simp
            try (intro hx; exfalso; omega)
          try simp only [Act.put, List.setIfInBounds_toArray, List.set_cons_zero, List.set_cons_succ]
          refine wpAnyH_take (i := 6) (oi := { dst := some 23, op := Op.move (Operand.tmp 5), type := 3, pos := "ref.go:93", after := #[], guard := none }) (v := .int .i64 (j : Int)) rfl (by kernel_rfl) (by kernel_rfl) (by kernel_rfl) (fun _ _ _ h => h) (Or.inl ⟨by rfl, ?_⟩) hk0 ?_
          · intro W hW
            obtain ⟨k0, k1, k2, k3, k4, k5, k6, k7, k8, k9, k10, k11⟩ := hW
            clear hk0
            go_simp
            try (intro hx; exfalso; omega)
          try simp only [Act.put, List.setIfInBounds_toArray, List.set_cons_zero, List.set_cons_succ]
          refine wpAnyH_take (i := 7) (oi := { dst := some 24, op := Op.indexAddr 28 (Operand.tmp 22) (Operand.tmp 23), type := 0, pos := "ref.go:93", after := #[{ on := 5, ground := Ground.data }, { on := 6, ground := Ground.data }], guard := none }) (v := .pointer (some ⟨B', o' + j * 6, none⟩)) rfl (by kernel_rfl) (by kernel_rfl) (by kernel_rfl) (fun _ _ _ h => h) (Or.inl ⟨by rfl, ?_⟩) hk0 ?_
          · intro W hW
            obtain ⟨k0, k1, k2, k3, k4, k5, k6, k7, k8, k9, k10, k11⟩ := hW
            clear hk0
            go_simp
            try (intro hx; exfalso; omega)
          try simp only [Act.put, List.setIfInBounds_toArray, List.set_cons_zero, List.set_cons_succ]
          refine wpAnyH_take (i := 8) (oi := { dst := some 25, op := Op.fieldAddr 66 (Operand.tmp 24) 0, type := 0, pos := "ref.go:93", after := #[{ on := 7, ground := Ground.data }], guard := none }) (v := .pointer (some ⟨B', o' + j * 6, none⟩)) rfl (by kernel_rfl) (by kernel_rfl) (by kernel_rfl) (fun _ _ _ h => h) (Or.inl ⟨by rfl, ?_⟩) hk0 ?_
          · intro W hW
            obtain ⟨k0, k1, k2, k3, k4, k5, k6, k7, k8, k9, k10, k11⟩ := hW
            clear hk0
            go_simp
            try (intro hx; exfalso; omega)
          try simp only [Act.put, List.setIfInBounds_toArray, List.set_cons_zero, List.set_cons_succ]
          refine wpAnyH_take (i := 9) (oi := { dst := some 26, op := Op.load 3 (Operand.tmp 25), type := 3, pos := "ref.go:93", after := #[{ on := 8, ground := Ground.data }], guard := none }) (v := .int .i64 k) rfl (by kernel_rfl) (by kernel_rfl) (by kernel_rfl) (fun _ _ _ h => h) (Or.inl ⟨by rfl, ?_⟩) hk0 ?_
          · intro W hW
            obtain ⟨k0, k1, k2, k3, k4, k5, k6, k7, k8, k9, k10, k11⟩ := hW
            clear hk0
            go_simp
            try (intro hx; exfalso; omega)
          try simp only [Act.put, List.setIfInBounds_toArray, List.set_cons_zero, List.set_cons_succ]
          refine wpAnyH_take (i := 10) (oi := { dst := some 27, op := Op.binOp BinOp.neq 3 (Operand.tmp 21) (Operand.tmp 26) 3, type := 4, pos := "ref.go:93", after := #[{ on := 4, ground := Ground.data }, { on := 9, ground := Ground.data }], guard := none }) (v := .bool false) rfl (by kernel_rfl) (by kernel_rfl) (by kernel_rfl) (fun _ _ _ h => h) (Or.inl ⟨by rfl, ?_⟩) hk0 ?_
          · intro W hW
            obtain ⟨k0, k1, k2, k3, k4, k5, k6, k7, k8, k9, k10, k11⟩ := hW
            clear hk0
            go_simp
            try (intro hx; exfalso; omega)
          try simp only [Act.put, List.setIfInBounds_toArray, List.set_cons_zero, List.set_cons_succ]
          refine wpAnyH_take (i := 11) (oi := { dst := some 28, op := Op.move (Operand.tmp 27), type := 4, pos := "ref.go:93", after := #[{ on := 10, ground := Ground.data }], guard := none }) (v := .bool false) rfl (by kernel_rfl) (by kernel_rfl) (by kernel_rfl) (fun _ _ _ h => h) (Or.inl ⟨by rfl, ?_⟩) hk0 ?_
          · intro W hW
            obtain ⟨k0, k1, k2, k3, k4, k5, k6, k7, k8, k9, k10, k11⟩ := hW
            clear hk0
            go_simp
            try (intro hx; exfalso; omega)
          try simp only [Act.put, List.setIfInBounds_toArray, List.set_cons_zero, List.set_cons_succ]
          refine wpAnyH_take (i := 12) (oi := { dst := some 29, op := Op.move (Operand.tmp 0), type := 28, pos := "ref.go:93", after := #[{ on := 11, ground := Ground.guard }], guard := some (11, false) }) (v := .slice (some ⟨B, o, none⟩) N cap0) rfl (by kernel_rfl) (by kernel_rfl) (by kernel_rfl) (fun _ _ _ h => h) (Or.inl ⟨by rfl, ?_⟩) hk0 ?_
          · intro W hW
            obtain ⟨k0, k1, k2, k3, k4, k5, k6, k7, k8, k9, k10, k11⟩ := hW
            clear hk0
            go_simp
            try (intro hx; exfalso; omega)
          try simp only [Act.put, List.setIfInBounds_toArray, List.set_cons_zero, List.set_cons_succ]
          refine wpAnyH_take (i := 13) (oi := { dst := some 30, op := Op.move (Operand.tmp 5), type := 3, pos := "ref.go:93", after := #[{ on := 11, ground := Ground.guard }], guard := some (11, false) }) (v := .int .i64 (j : Int)) rfl (by kernel_rfl) (by kernel_rfl) (by kernel_rfl) (fun _ _ _ h => h) (Or.inl ⟨by rfl, ?_⟩) hk0 ?_
          · intro W hW
            obtain ⟨k0, k1, k2, k3, k4, k5, k6, k7, k8, k9, k10, k11⟩ := hW
            clear hk0
            go_simp
            try (intro hx; exfalso; omega)
          try simp only [Act.put, List.setIfInBounds_toArray, List.set_cons_zero, List.set_cons_succ]
          refine wpAnyH_take (i := 14) (oi := { dst := some 31, op := Op.indexAddr 28 (Operand.tmp 29) (Operand.tmp 30), type := 0, pos := "ref.go:93", after := #[{ on := 12, ground := Ground.data }, { on := 13, ground := Ground.data }, { on := 11, ground := Ground.guard }], guard := some (11, false) }) (v := .pointer (some ⟨B, o + j * 6, none⟩)) rfl (by kernel_rfl) (by kernel_rfl) (by kernel_rfl) (fun _ _ _ h => h) (Or.inl ⟨by rfl, ?_⟩) hk0 ?_
          · intro W hW
            obtain ⟨k0, k1, k2, k3, k4, k5, k6, k7, k8, k9, k10, k11⟩ := hW
            clear hk0
            go_simp
            try (intro hx; exfalso; omega)
          try simp only [Act.put, List.setIfInBounds_toArray, List.set_cons_zero, List.set_cons_succ]
          refine wpAnyH_take (i := 15) (oi := { dst := some 32, op := Op.fieldAddr 66 (Operand.tmp 31) 1, type := 0, pos := "ref.go:93", after := #[{ on := 14, ground := Ground.data }, { on := 11, ground := Ground.guard }], guard := some (11, false) }) (v := .pointer (some ⟨B, o + j * 6 + 1, none⟩)) rfl (by kernel_rfl) (by kernel_rfl) (by kernel_rfl) (fun _ _ _ h => h) (Or.inl ⟨by rfl, ?_⟩) hk0 ?_
          · intro W hW
            obtain ⟨k0, k1, k2, k3, k4, k5, k6, k7, k8, k9, k10, k11⟩ := hW
            clear hk0
            go_simp
            try (intro hx; exfalso; omega)
          try simp only [Act.put, List.setIfInBounds_toArray, List.set_cons_zero, List.set_cons_succ]
          refine wpAnyH_take (i := 16) (oi := { dst := some 33, op := Op.load 9 (Operand.tmp 32), type := 9, pos := "ref.go:93", after := #[{ on := 15, ground := Ground.data }, { on := 11, ground := Ground.guard }], guard := some (11, false) }) (v := .string t) rfl (by kernel_rfl) (by kernel_rfl) (by kernel_rfl) (fun _ _ _ h => h) (Or.inl ⟨by rfl, ?_⟩) hk0 ?_
          · intro W hW
            obtain ⟨k0, k1, k2, k3, k4, k5, k6, k7, k8, k9, k10, k11⟩ := hW
            clear hk0
            go_simp
            try (intro hx; exfalso; omega)
          try simp only [Act.put, List.setIfInBounds_toArray, List.set_cons_zero, List.set_cons_succ]
          refine wpAnyH_take (i := 17) (oi := { dst := some 34, op := Op.move (Operand.tmp 1), type := 28, pos := "ref.go:93", after := #[{ on := 11, ground := Ground.guard }], guard := some (11, false) }) (v := .slice (some ⟨B', o', none⟩) N cap0') rfl (by kernel_rfl) (by kernel_rfl) (by kernel_rfl) (fun _ _ _ h => h) (Or.inl ⟨by rfl, ?_⟩) hk0 ?_
          · intro W hW
            obtain ⟨k0, k1, k2, k3, k4, k5, k6, k7, k8, k9, k10, k11⟩ := hW
            clear hk0
            go_simp
            try (intro hx; exfalso; omega)
          try simp only [Act.put, List.setIfInBounds_toArray, List.set_cons_zero, List.set_cons_succ]
          refine wpAnyH_take (i := 18) (oi := { dst := some 35, op := Op.move (Operand.tmp 5), type := 3, pos := "ref.go:93", after := #[{ on := 11, ground := Ground.guard }], guard := some (11, false) }) (v := .int .i64 (j : Int)) rfl (by kernel_rfl) (by kernel_rfl) (by kernel_rfl) (fun _ _ _ h => h) (Or.inl ⟨by rfl, ?_⟩) hk0 ?_
          · intro W hW
            obtain ⟨k0, k1, k2, k3, k4, k5, k6, k7, k8, k9, k10, k11⟩ := hW
            clear hk0
            go_simp
            try (intro hx; exfalso; omega)
          try simp only [Act.put, List.setIfInBounds_toArray, List.set_cons_zero, List.set_cons_succ]
          refine wpAnyH_take (i := 19) (oi := { dst := some 36, op := Op.indexAddr 28 (Operand.tmp 34) (Operand.tmp 35), type := 0, pos := "ref.go:93", after := #[{ on := 17, ground := Ground.data }, { on := 18, ground := Ground.data }, { on := 11, ground := Ground.guard }], guard := some (11, false) }) (v := .pointer (some ⟨B', o' + j * 6, none⟩)) rfl (by kernel_rfl) (by kernel_rfl) (by kernel_rfl) (fun _ _ _ h => h) (Or.inl ⟨by rfl, ?_⟩) hk0 ?_
          · intro W hW
            obtain ⟨k0, k1, k2, k3, k4, k5, k6, k7, k8, k9, k10, k11⟩ := hW
            clear hk0
            go_simp
            try (intro hx; exfalso; omega)
          try simp only [Act.put, List.setIfInBounds_toArray, List.set_cons_zero, List.set_cons_succ]
          refine wpAnyH_take (i := 20) (oi := { dst := some 37, op := Op.fieldAddr 66 (Operand.tmp 36) 1, type := 0, pos := "ref.go:93", after := #[{ on := 19, ground := Ground.data }, { on := 11, ground := Ground.guard }], guard := some (11, false) }) (v := .pointer (some ⟨B', o' + j * 6 + 1, none⟩)) rfl (by kernel_rfl) (by kernel_rfl) (by kernel_rfl) (fun _ _ _ h => h) (Or.inl ⟨by rfl, ?_⟩) hk0 ?_
          · intro W hW
            obtain ⟨k0, k1, k2, k3, k4, k5, k6, k7, k8, k9, k10, k11⟩ := hW
            clear hk0
            go_simp
            try (intro hx; exfalso; omega)
          try simp only [Act.put, List.setIfInBounds_toArray, List.set_cons_zero, List.set_cons_succ]
          refine wpAnyH_take (i := 21) (oi := { dst := some 38, op := Op.load 9 (Operand.tmp 37), type := 9, pos := "ref.go:93", after := #[{ on := 20, ground := Ground.data }, { on := 11, ground := Ground.guard }], guard := some (11, false) }) (v := .string t) rfl (by kernel_rfl) (by kernel_rfl) (by kernel_rfl) (fun _ _ _ h => h) (Or.inl ⟨by rfl, ?_⟩) hk0 ?_
          · intro W hW
            obtain ⟨k0, k1, k2, k3, k4, k5, k6, k7, k8, k9, k10, k11⟩ := hW
            clear hk0
            go_simp
            try (intro hx; exfalso; omega)
          try simp only [Act.put, List.setIfInBounds_toArray, List.set_cons_zero, List.set_cons_succ]
          refine wpAnyH_take (i := 22) (oi := { dst := some 39, op := Op.binOp BinOp.neq 9 (Operand.tmp 33) (Operand.tmp 38) 9, type := 4, pos := "ref.go:93", after := #[{ on := 16, ground := Ground.data }, { on := 21, ground := Ground.data }, { on := 11, ground := Ground.guard }], guard := some (11, false) }) (v := .bool false) rfl (by kernel_rfl) (by kernel_rfl) (by kernel_rfl) (fun _ _ _ h => h) (Or.inl ⟨by rfl, ?_⟩) hk0 ?_
          · intro W hW
            obtain ⟨k0, k1, k2, k3, k4, k5, k6, k7, k8, k9, k10, k11⟩ := hW
            clear hk0
            go_simp
            try (intro hx; exfalso; omega)
          try simp only [Act.put, List.setIfInBounds_toArray, List.set_cons_zero, List.set_cons_succ]
          refine wpAnyH_take (i := 23) (oi := { dst := some 40, op := Op.pick (Operand.tmp 28) (Operand.const (Value.bool true)) (Operand.tmp 39), type := 4, pos := "ref.go:93", after := #[{ on := 11, ground := Ground.data }, { on := 22, ground := Ground.data }], guard := none }) (v := .bool false) rfl (by kernel_rfl) (by kernel_rfl) (by kernel_rfl) (fun _ _ _ h => h) (Or.inl ⟨by rfl, ?_⟩) hk0 ?_
          · intro W hW
            obtain ⟨k0, k1, k2, k3, k4, k5, k6, k7, k8, k9, k10, k11⟩ := hW
            clear hk0
            go_simp
            try (intro hx; exfalso; omega)
          try simp only [Act.put, List.setIfInBounds_toArray, List.set_cons_zero, List.set_cons_succ]
          refine wpAnyH_take (i := 24) (oi := { dst := some 41, op := Op.move (Operand.tmp 40), type := 4, pos := "ref.go:93", after := #[{ on := 23, ground := Ground.data }, { on := 11, ground := Ground.chain }], guard := none }) (v := .bool false) rfl (by kernel_rfl) (by kernel_rfl) (by kernel_rfl) (fun _ _ _ h => h) (Or.inl ⟨by rfl, ?_⟩) hk0 ?_
          · intro W hW
            obtain ⟨k0, k1, k2, k3, k4, k5, k6, k7, k8, k9, k10, k11⟩ := hW
            clear hk0
            go_simp
            try (intro hx; exfalso; omega)
          try simp only [Act.put, List.setIfInBounds_toArray, List.set_cons_zero, List.set_cons_succ]
          refine wpAnyH_take (i := 25) (oi := { dst := some 42, op := Op.move (Operand.tmp 0), type := 28, pos := "ref.go:93", after := #[{ on := 24, ground := Ground.guard }], guard := some (24, false) }) (v := .slice (some ⟨B, o, none⟩) N cap0) rfl (by kernel_rfl) (by kernel_rfl) (by kernel_rfl) (fun _ _ _ h => h) (Or.inl ⟨by rfl, ?_⟩) hk0 ?_
          · intro W hW
            obtain ⟨k0, k1, k2, k3, k4, k5, k6, k7, k8, k9, k10, k11⟩ := hW
            clear hk0
            go_simp
            try (intro hx; exfalso; omega)
          try simp only [Act.put, List.setIfInBounds_toArray, List.set_cons_zero, List.set_cons_succ]
          refine wpAnyH_take (i := 26) (oi := { dst := some 43, op := Op.move (Operand.tmp 5), type := 3, pos := "ref.go:93", after := #[{ on := 24, ground := Ground.guard }], guard := some (24, false) }) (v := .int .i64 (j : Int)) rfl (by kernel_rfl) (by kernel_rfl) (by kernel_rfl) (fun _ _ _ h => h) (Or.inl ⟨by rfl, ?_⟩) hk0 ?_
          · intro W hW
            obtain ⟨k0, k1, k2, k3, k4, k5, k6, k7, k8, k9, k10, k11⟩ := hW
            clear hk0
            go_simp
            try (intro hx; exfalso; omega)
          try simp only [Act.put, List.setIfInBounds_toArray, List.set_cons_zero, List.set_cons_succ]
          refine wpAnyH_take (i := 27) (oi := { dst := some 44, op := Op.indexAddr 28 (Operand.tmp 42) (Operand.tmp 43), type := 0, pos := "ref.go:93", after := #[{ on := 25, ground := Ground.data }, { on := 26, ground := Ground.data }, { on := 24, ground := Ground.guard }], guard := some (24, false) }) (v := .pointer (some ⟨B, o + j * 6, none⟩)) rfl (by kernel_rfl) (by kernel_rfl) (by kernel_rfl) (fun _ _ _ h => h) (Or.inl ⟨by rfl, ?_⟩) hk0 ?_
          · intro W hW
            obtain ⟨k0, k1, k2, k3, k4, k5, k6, k7, k8, k9, k10, k11⟩ := hW
            clear hk0
            go_simp
            try (intro hx; exfalso; omega)
          try simp only [Act.put, List.setIfInBounds_toArray, List.set_cons_zero, List.set_cons_succ]
          refine wpAnyH_take (i := 28) (oi := { dst := some 45, op := Op.fieldAddr 66 (Operand.tmp 44) 2, type := 0, pos := "ref.go:93", after := #[{ on := 27, ground := Ground.data }, { on := 24, ground := Ground.guard }], guard := some (24, false) }) (v := .pointer (some ⟨B, o + j * 6 + 2, none⟩)) rfl (by kernel_rfl) (by kernel_rfl) (by kernel_rfl) (fun _ _ _ h => h) (Or.inl ⟨by rfl, ?_⟩) hk0 ?_
          · intro W hW
            obtain ⟨k0, k1, k2, k3, k4, k5, k6, k7, k8, k9, k10, k11⟩ := hW
            clear hk0
            go_simp
            try (intro hx; exfalso; omega)
          try simp only [Act.put, List.setIfInBounds_toArray, List.set_cons_zero, List.set_cons_succ]
          refine wpAnyH_take (i := 29) (oi := { dst := some 46, op := Op.load 3 (Operand.tmp 45), type := 3, pos := "ref.go:93", after := #[{ on := 28, ground := Ground.data }, { on := 24, ground := Ground.guard }], guard := some (24, false) }) (v := .int .i64 p) rfl (by kernel_rfl) (by kernel_rfl) (by kernel_rfl) (fun _ _ _ h => h) (Or.inl ⟨by rfl, ?_⟩) hk0 ?_
          · intro W hW
            obtain ⟨k0, k1, k2, k3, k4, k5, k6, k7, k8, k9, k10, k11⟩ := hW
            clear hk0
            go_simp
            try (intro hx; exfalso; omega)
          try simp only [Act.put, List.setIfInBounds_toArray, List.set_cons_zero, List.set_cons_succ]
          refine wpAnyH_take (i := 30) (oi := { dst := some 47, op := Op.move (Operand.tmp 1), type := 28, pos := "ref.go:93", after := #[{ on := 24, ground := Ground.guard }], guard := some (24, false) }) (v := .slice (some ⟨B', o', none⟩) N cap0') rfl (by kernel_rfl) (by kernel_rfl) (by kernel_rfl) (fun _ _ _ h => h) (Or.inl ⟨by rfl, ?_⟩) hk0 ?_
          · intro W hW
            obtain ⟨k0, k1, k2, k3, k4, k5, k6, k7, k8, k9, k10, k11⟩ := hW
            clear hk0
            go_simp
            try (intro hx; exfalso; omega)
          try simp only [Act.put, List.setIfInBounds_toArray, List.set_cons_zero, List.set_cons_succ]
          refine wpAnyH_take (i := 31) (oi := { dst := some 48, op := Op.move (Operand.tmp 5), type := 3, pos := "ref.go:93", after := #[{ on := 24, ground := Ground.guard }], guard := some (24, false) }) (v := .int .i64 (j : Int)) rfl (by kernel_rfl) (by kernel_rfl) (by kernel_rfl) (fun _ _ _ h => h) (Or.inl ⟨by rfl, ?_⟩) hk0 ?_
          · intro W hW
            obtain ⟨k0, k1, k2, k3, k4, k5, k6, k7, k8, k9, k10, k11⟩ := hW
            clear hk0
            go_simp
            try (intro hx; exfalso; omega)
          try simp only [Act.put, List.setIfInBounds_toArray, List.set_cons_zero, List.set_cons_succ]
          refine wpAnyH_take (i := 32) (oi := { dst := some 49, op := Op.indexAddr 28 (Operand.tmp 47) (Operand.tmp 48), type := 0, pos := "ref.go:93", after := #[{ on := 30, ground := Ground.data }, { on := 31, ground := Ground.data }, { on := 24, ground := Ground.guard }], guard := some (24, false) }) (v := .pointer (some ⟨B', o' + j * 6, none⟩)) rfl (by kernel_rfl) (by kernel_rfl) (by kernel_rfl) (fun _ _ _ h => h) (Or.inl ⟨by rfl, ?_⟩) hk0 ?_
          · intro W hW
            obtain ⟨k0, k1, k2, k3, k4, k5, k6, k7, k8, k9, k10, k11⟩ := hW
            clear hk0
            go_simp
            try (intro hx; exfalso; omega)
          try simp only [Act.put, List.setIfInBounds_toArray, List.set_cons_zero, List.set_cons_succ]
          refine wpAnyH_take (i := 33) (oi := { dst := some 50, op := Op.fieldAddr 66 (Operand.tmp 49) 2, type := 0, pos := "ref.go:93", after := #[{ on := 32, ground := Ground.data }, { on := 24, ground := Ground.guard }], guard := some (24, false) }) (v := .pointer (some ⟨B', o' + j * 6 + 2, none⟩)) rfl (by kernel_rfl) (by kernel_rfl) (by kernel_rfl) (fun _ _ _ h => h) (Or.inl ⟨by rfl, ?_⟩) hk0 ?_
          · intro W hW
            obtain ⟨k0, k1, k2, k3, k4, k5, k6, k7, k8, k9, k10, k11⟩ := hW
            clear hk0
            go_simp
            try (intro hx; exfalso; omega)
          try simp only [Act.put, List.setIfInBounds_toArray, List.set_cons_zero, List.set_cons_succ]
          refine wpAnyH_take (i := 34) (oi := { dst := some 51, op := Op.load 3 (Operand.tmp 50), type := 3, pos := "ref.go:93", after := #[{ on := 33, ground := Ground.data }, { on := 24, ground := Ground.guard }], guard := some (24, false) }) (v := .int .i64 p) rfl (by kernel_rfl) (by kernel_rfl) (by kernel_rfl) (fun _ _ _ h => h) (Or.inl ⟨by rfl, ?_⟩) hk0 ?_
          · intro W hW
            obtain ⟨k0, k1, k2, k3, k4, k5, k6, k7, k8, k9, k10, k11⟩ := hW
            clear hk0
            go_simp
            try (intro hx; exfalso; omega)
          try simp only [Act.put, List.setIfInBounds_toArray, List.set_cons_zero, List.set_cons_succ]
          refine wpAnyH_take (i := 35) (oi := { dst := some 52, op := Op.binOp BinOp.neq 3 (Operand.tmp 46) (Operand.tmp 51) 3, type := 4, pos := "ref.go:93", after := #[{ on := 29, ground := Ground.data }, { on := 34, ground := Ground.data }, { on := 24, ground := Ground.guard }], guard := some (24, false) }) (v := .bool false) rfl (by kernel_rfl) (by kernel_rfl) (by kernel_rfl) (fun _ _ _ h => h) (Or.inl ⟨by rfl, ?_⟩) hk0 ?_
          · intro W hW
            obtain ⟨k0, k1, k2, k3, k4, k5, k6, k7, k8, k9, k10, k11⟩ := hW
            clear hk0
            go_simp
            try (intro hx; exfalso; omega)
          try simp only [Act.put, List.setIfInBounds_toArray, List.set_cons_zero, List.set_cons_succ]
          refine wpAnyH_take (i := 36) (oi := { dst := some 53, op := Op.pick (Operand.tmp 41) (Operand.const (Value.bool true)) (Operand.tmp 52), type := 4, pos := "ref.go:93", after := #[{ on := 24, ground := Ground.data }, { on := 35, ground := Ground.data }], guard := none }) (v := .bool false) rfl (by kernel_rfl) (by kernel_rfl) (by kernel_rfl) (fun _ _ _ h => h) (Or.inl ⟨by rfl, ?_⟩) hk0 ?_
          · intro W hW
            obtain ⟨k0, k1, k2, k3, k4, k5, k6, k7, k8, k9, k10, k11⟩ := hW
            clear hk0
            go_simp
            try (intro hx; exfalso; omega)
          try simp only [Act.put, List.setIfInBounds_toArray, List.set_cons_zero, List.set_cons_succ]
          refine wpAnyH_take (i := 37) (oi := { dst := some 54, op := Op.move (Operand.tmp 53), type := 4, pos := "ref.go:93", after := #[{ on := 36, ground := Ground.data }, { on := 24, ground := Ground.chain }], guard := none }) (v := .bool false) rfl (by kernel_rfl) (by kernel_rfl) (by kernel_rfl) (fun _ _ _ h => h) (Or.inl ⟨by rfl, ?_⟩) hk0 ?_
          · intro W hW
            obtain ⟨k0, k1, k2, k3, k4, k5, k6, k7, k8, k9, k10, k11⟩ := hW
            clear hk0
            go_simp
            try (intro hx; exfalso; omega)
          try simp only [Act.put, List.setIfInBounds_toArray, List.set_cons_zero, List.set_cons_succ]
          refine wpAnyH_take (i := 38) (oi := { dst := some 55, op := Op.move (Operand.tmp 0), type := 28, pos := "ref.go:93", after := #[{ on := 37, ground := Ground.guard }], guard := some (37, false) }) (v := .slice (some ⟨B, o, none⟩) N cap0) rfl (by kernel_rfl) (by kernel_rfl) (by kernel_rfl) (fun _ _ _ h => h) (Or.inl ⟨by rfl, ?_⟩) hk0 ?_
          · intro W hW
            obtain ⟨k0, k1, k2, k3, k4, k5, k6, k7, k8, k9, k10, k11⟩ := hW
            clear hk0
            go_simp
            try (intro hx; exfalso; omega)
          try simp only [Act.put, List.setIfInBounds_toArray, List.set_cons_zero, List.set_cons_succ]
          refine wpAnyH_take (i := 39) (oi := { dst := some 56, op := Op.move (Operand.tmp 5), type := 3, pos := "ref.go:93", after := #[{ on := 37, ground := Ground.guard }], guard := some (37, false) }) (v := .int .i64 (j : Int)) rfl (by kernel_rfl) (by kernel_rfl) (by kernel_rfl) (fun _ _ _ h => h) (Or.inl ⟨by rfl, ?_⟩) hk0 ?_
          · intro W hW
            obtain ⟨k0, k1, k2, k3, k4, k5, k6, k7, k8, k9, k10, k11⟩ := hW
            clear hk0
            go_simp
            try (intro hx; exfalso; omega)
          try simp only [Act.put, List.setIfInBounds_toArray, List.set_cons_zero, List.set_cons_succ]
          refine wpAnyH_take (i := 40) (oi := { dst := some 57, op := Op.indexAddr 28 (Operand.tmp 55) (Operand.tmp 56), type := 0, pos := "ref.go:93", after := #[{ on := 38, ground := Ground.data }, { on := 39, ground := Ground.data }, { on := 37, ground := Ground.guard }], guard := some (37, false) }) (v := .pointer (some ⟨B, o + j * 6, none⟩)) rfl (by kernel_rfl) (by kernel_rfl) (by kernel_rfl) (fun _ _ _ h => h) (Or.inl ⟨by rfl, ?_⟩) hk0 ?_
          · intro W hW
            obtain ⟨k0, k1, k2, k3, k4, k5, k6, k7, k8, k9, k10, k11⟩ := hW
            clear hk0
            go_simp
            try (intro hx; exfalso; omega)
          try simp only [Act.put, List.setIfInBounds_toArray, List.set_cons_zero, List.set_cons_succ]
          refine wpAnyH_take (i := 41) (oi := { dst := some 58, op := Op.fieldAddr 66 (Operand.tmp 57) 3, type := 0, pos := "ref.go:93", after := #[{ on := 40, ground := Ground.data }, { on := 37, ground := Ground.guard }], guard := some (37, false) }) (v := .pointer (some ⟨B, o + j * 6 + 3, none⟩)) rfl (by kernel_rfl) (by kernel_rfl) (by kernel_rfl) (fun _ _ _ h => h) (Or.inl ⟨by rfl, ?_⟩) hk0 ?_
          · intro W hW
            obtain ⟨k0, k1, k2, k3, k4, k5, k6, k7, k8, k9, k10, k11⟩ := hW
            clear hk0
            go_simp
            try (intro hx; exfalso; omega)
          try simp only [Act.put, List.setIfInBounds_toArray, List.set_cons_zero, List.set_cons_succ]
          refine wpAnyH_take (i := 42) (oi := { dst := some 59, op := Op.load 4 (Operand.tmp 58), type := 4, pos := "ref.go:93", after := #[{ on := 41, ground := Ground.data }, { on := 37, ground := Ground.guard }], guard := some (37, false) }) (v := .bool c) rfl (by kernel_rfl) (by kernel_rfl) (by kernel_rfl) (fun _ _ _ h => h) (Or.inl ⟨by rfl, ?_⟩) hk0 ?_
          · intro W hW
            obtain ⟨k0, k1, k2, k3, k4, k5, k6, k7, k8, k9, k10, k11⟩ := hW
            clear hk0
            go_simp
            try (intro hx; exfalso; omega)
          try simp only [Act.put, List.setIfInBounds_toArray, List.set_cons_zero, List.set_cons_succ]
          refine wpAnyH_take (i := 43) (oi := { dst := some 60, op := Op.move (Operand.tmp 1), type := 28, pos := "ref.go:93", after := #[{ on := 37, ground := Ground.guard }], guard := some (37, false) }) (v := .slice (some ⟨B', o', none⟩) N cap0') rfl (by kernel_rfl) (by kernel_rfl) (by kernel_rfl) (fun _ _ _ h => h) (Or.inl ⟨by rfl, ?_⟩) hk0 ?_
          · intro W hW
            obtain ⟨k0, k1, k2, k3, k4, k5, k6, k7, k8, k9, k10, k11⟩ := hW
            clear hk0
            go_simp
            try (intro hx; exfalso; omega)
          try simp only [Act.put, List.setIfInBounds_toArray, List.set_cons_zero, List.set_cons_succ]
          refine wpAnyH_take (i := 44) (oi := { dst := some 61, op := Op.move (Operand.tmp 5), type := 3, pos := "ref.go:93", after := #[{ on := 37, ground := Ground.guard }], guard := some (37, false) }) (v := .int .i64 (j : Int)) rfl (by kernel_rfl) (by kernel_rfl) (by kernel_rfl) (fun _ _ _ h => h) (Or.inl ⟨by rfl, ?_⟩) hk0 ?_
          · intro W hW
            obtain ⟨k0, k1, k2, k3, k4, k5, k6, k7, k8, k9, k10, k11⟩ := hW
            clear hk0
            go_simp
            try (intro hx; exfalso; omega)
          try simp only [Act.put, List.setIfInBounds_toArray, List.set_cons_zero, List.set_cons_succ]
          refine wpAnyH_take (i := 45) (oi := { dst := some 62, op := Op.indexAddr 28 (Operand.tmp 60) (Operand.tmp 61), type := 0, pos := "ref.go:93", after := #[{ on := 43, ground := Ground.data }, { on := 44, ground := Ground.data }, { on := 37, ground := Ground.guard }], guard := some (37, false) }) (v := .pointer (some ⟨B', o' + j * 6, none⟩)) rfl (by kernel_rfl) (by kernel_rfl) (by kernel_rfl) (fun _ _ _ h => h) (Or.inl ⟨by rfl, ?_⟩) hk0 ?_
          · intro W hW
            obtain ⟨k0, k1, k2, k3, k4, k5, k6, k7, k8, k9, k10, k11⟩ := hW
            clear hk0
            go_simp
            try (intro hx; exfalso; omega)
          try simp only [Act.put, List.setIfInBounds_toArray, List.set_cons_zero, List.set_cons_succ]
          refine wpAnyH_take (i := 46) (oi := { dst := some 63, op := Op.fieldAddr 66 (Operand.tmp 62) 3, type := 0, pos := "ref.go:93", after := #[{ on := 45, ground := Ground.data }, { on := 37, ground := Ground.guard }], guard := some (37, false) }) (v := .pointer (some ⟨B', o' + j * 6 + 3, none⟩)) rfl (by kernel_rfl) (by kernel_rfl) (by kernel_rfl) (fun _ _ _ h => h) (Or.inl ⟨by rfl, ?_⟩) hk0 ?_
          · intro W hW
            obtain ⟨k0, k1, k2, k3, k4, k5, k6, k7, k8, k9, k10, k11⟩ := hW
            clear hk0
            go_simp
            try (intro hx; exfalso; omega)
          try simp only [Act.put, List.setIfInBounds_toArray, List.set_cons_zero, List.set_cons_succ]
          refine wpAnyH_take (i := 47) (oi := { dst := some 64, op := Op.load 4 (Operand.tmp 63), type := 4, pos := "ref.go:93", after := #[{ on := 46, ground := Ground.data }, { on := 37, ground := Ground.guard }], guard := some (37, false) }) (v := .bool c) rfl (by kernel_rfl) (by kernel_rfl) (by kernel_rfl) (fun _ _ _ h => h) (Or.inl ⟨by rfl, ?_⟩) hk0 ?_
          · intro W hW
            obtain ⟨k0, k1, k2, k3, k4, k5, k6, k7, k8, k9, k10, k11⟩ := hW
            clear hk0
            go_simp
            try (intro hx; exfalso; omega)
          try simp only [Act.put, List.setIfInBounds_toArray, List.set_cons_zero, List.set_cons_succ]
          refine wpAnyH_take (i := 48) (oi := { dst := some 65, op := Op.binOp BinOp.neq 4 (Operand.tmp 59) (Operand.tmp 64) 4, type := 4, pos := "ref.go:93", after := #[{ on := 42, ground := Ground.data }, { on := 47, ground := Ground.data }, { on := 37, ground := Ground.guard }], guard := some (37, false) }) (v := .bool false) rfl (by kernel_rfl) (by kernel_rfl) (by kernel_rfl) (fun _ _ _ h => h) (Or.inl ⟨by rfl, ?_⟩) hk0 ?_
          · intro W hW
            obtain ⟨k0, k1, k2, k3, k4, k5, k6, k7, k8, k9, k10, k11⟩ := hW
            clear hk0
            go_simp
            try (intro hx; exfalso; omega)
          try simp only [Act.put, List.setIfInBounds_toArray, List.set_cons_zero, List.set_cons_succ]
          refine wpAnyH_take (i := 49) (oi := { dst := some 66, op := Op.pick (Operand.tmp 54) (Operand.const (Value.bool true)) (Operand.tmp 65), type := 4, pos := "ref.go:93", after := #[{ on := 37, ground := Ground.data }, { on := 48, ground := Ground.data }], guard := none }) (v := .bool false) rfl (by kernel_rfl) (by kernel_rfl) (by kernel_rfl) (fun _ _ _ h => h) (Or.inl ⟨by rfl, ?_⟩) hk0 ?_
          · intro W hW
            obtain ⟨k0, k1, k2, k3, k4, k5, k6, k7, k8, k9, k10, k11⟩ := hW
            clear hk0
            go_simp
            try (intro hx; exfalso; omega)
          try simp only [Act.put, List.setIfInBounds_toArray, List.set_cons_zero, List.set_cons_succ]
          refine wpAnyH_take (i := 50) (oi := { dst := some 67, op := Op.move (Operand.tmp 66), type := 4, pos := "ref.go:93", after := #[{ on := 49, ground := Ground.data }, { on := 37, ground := Ground.chain }], guard := none }) (v := .bool false) rfl (by kernel_rfl) (by kernel_rfl) (by kernel_rfl) (fun _ _ _ h => h) (Or.inl ⟨by rfl, ?_⟩) hk0 ?_
          · intro W hW
            obtain ⟨k0, k1, k2, k3, k4, k5, k6, k7, k8, k9, k10, k11⟩ := hW
            clear hk0
            go_simp
            try (intro hx; exfalso; omega)
          try simp only [Act.put, List.setIfInBounds_toArray, List.set_cons_zero, List.set_cons_succ]
          refine wpAnyH_take (i := 51) (oi := { dst := some 68, op := Op.move (Operand.tmp 0), type := 28, pos := "ref.go:93", after := #[{ on := 50, ground := Ground.guard }], guard := some (50, false) }) (v := .slice (some ⟨B, o, none⟩) N cap0) rfl (by kernel_rfl) (by kernel_rfl) (by kernel_rfl) (fun _ _ _ h => h) (Or.inl ⟨by rfl, ?_⟩) hk0 ?_
          · intro W hW
            obtain ⟨k0, k1, k2, k3, k4, k5, k6, k7, k8, k9, k10, k11⟩ := hW
            clear hk0
            go_simp
            try (intro hx; exfalso; omega)
          try simp only [Act.put, List.setIfInBounds_toArray, List.set_cons_zero, List.set_cons_succ]
          refine wpAnyH_take (i := 52) (oi := { dst := some 69, op := Op.move (Operand.tmp 5), type := 3, pos := "ref.go:93", after := #[{ on := 50, ground := Ground.guard }], guard := some (50, false) }) (v := .int .i64 (j : Int)) rfl (by kernel_rfl) (by kernel_rfl) (by kernel_rfl) (fun _ _ _ h => h) (Or.inl ⟨by rfl, ?_⟩) hk0 ?_
          · intro W hW
            obtain ⟨k0, k1, k2, k3, k4, k5, k6, k7, k8, k9, k10, k11⟩ := hW
            clear hk0
            go_simp
            try (intro hx; exfalso; omega)
          try simp only [Act.put, List.setIfInBounds_toArray, List.set_cons_zero, List.set_cons_succ]
          refine wpAnyH_take (i := 53) (oi := { dst := some 70, op := Op.indexAddr 28 (Operand.tmp 68) (Operand.tmp 69), type := 0, pos := "ref.go:93", after := #[{ on := 51, ground := Ground.data }, { on := 52, ground := Ground.data }, { on := 50, ground := Ground.guard }], guard := some (50, false) }) (v := .pointer (some ⟨B, o + j * 6, none⟩)) rfl (by kernel_rfl) (by kernel_rfl) (by kernel_rfl) (fun _ _ _ h => h) (Or.inl ⟨by rfl, ?_⟩) hk0 ?_
          · intro W hW
            obtain ⟨k0, k1, k2, k3, k4, k5, k6, k7, k8, k9, k10, k11⟩ := hW
            clear hk0
            go_simp
            try (intro hx; exfalso; omega)
          try simp only [Act.put, List.setIfInBounds_toArray, List.set_cons_zero, List.set_cons_succ]
          refine wpAnyH_take (i := 54) (oi := { dst := some 71, op := Op.fieldAddr 66 (Operand.tmp 70) 4, type := 0, pos := "ref.go:93", after := #[{ on := 53, ground := Ground.data }, { on := 50, ground := Ground.guard }], guard := some (50, false) }) (v := .pointer (some ⟨B, o + j * 6 + 4, none⟩)) rfl (by kernel_rfl) (by kernel_rfl) (by kernel_rfl) (fun _ _ _ h => h) (Or.inl ⟨by rfl, ?_⟩) hk0 ?_
          · intro W hW
            obtain ⟨k0, k1, k2, k3, k4, k5, k6, k7, k8, k9, k10, k11⟩ := hW
            clear hk0
            go_simp
            try (intro hx; exfalso; omega)
          try simp only [Act.put, List.setIfInBounds_toArray, List.set_cons_zero, List.set_cons_succ]
          refine wpAnyH_take (i := 55) (oi := { dst := some 72, op := Op.load 28 (Operand.tmp 71), type := 28, pos := "ref.go:93", after := #[{ on := 54, ground := Ground.data }, { on := 50, ground := Ground.guard }], guard := some (50, false) }) (v := .slice AK mK cK) rfl (by kernel_rfl) (by kernel_rfl) (by kernel_rfl) (fun _ _ _ h => h) (Or.inl ⟨by rfl, ?_⟩) hk0 ?_
          · intro W hW
            obtain ⟨k0, k1, k2, k3, k4, k5, k6, k7, k8, k9, k10, k11⟩ := hW
            clear hk0
            go_simp
            try (intro hx; exfalso; omega)
          try simp only [Act.put, List.setIfInBounds_toArray, List.set_cons_zero, List.set_cons_succ]
          refine wpAnyH_take (i := 56) (oi := { dst := some 73, op := Op.move (Operand.tmp 1), type := 28, pos := "ref.go:93", after := #[{ on := 50, ground := Ground.guard }], guard := some (50, false) }) (v := .slice (some ⟨B', o', none⟩) N cap0') rfl (by kernel_rfl) (by kernel_rfl) (by kernel_rfl) (fun _ _ _ h => h) (Or.inl ⟨by rfl, ?_⟩) hk0 ?_
          · intro W hW
            obtain ⟨k0, k1, k2, k3, k4, k5, k6, k7, k8, k9, k10, k11⟩ := hW
            clear hk0
            go_simp
            try (intro hx; exfalso; omega)
          try simp only [Act.put, List.setIfInBounds_toArray, List.set_cons_zero, List.set_cons_succ]
          refine wpAnyH_take (i := 57) (oi := { dst := some 74, op := Op.move (Operand.tmp 5), type := 3, pos := "ref.go:93", after := #[{ on := 50, ground := Ground.guard }], guard := some (50, false) }) (v := .int .i64 (j : Int)) rfl (by kernel_rfl) (by kernel_rfl) (by kernel_rfl) (fun _ _ _ h => h) (Or.inl ⟨by rfl, ?_⟩) hk0 ?_
          · intro W hW
            obtain ⟨k0, k1, k2, k3, k4, k5, k6, k7, k8, k9, k10, k11⟩ := hW
            clear hk0
            go_simp
            try (intro hx; exfalso; omega)
          try simp only [Act.put, List.setIfInBounds_toArray, List.set_cons_zero, List.set_cons_succ]
          refine wpAnyH_take (i := 58) (oi := { dst := some 75, op := Op.indexAddr 28 (Operand.tmp 73) (Operand.tmp 74), type := 0, pos := "ref.go:93", after := #[{ on := 56, ground := Ground.data }, { on := 57, ground := Ground.data }, { on := 50, ground := Ground.guard }], guard := some (50, false) }) (v := .pointer (some ⟨B', o' + j * 6, none⟩)) rfl (by kernel_rfl) (by kernel_rfl) (by kernel_rfl) (fun _ _ _ h => h) (Or.inl ⟨by rfl, ?_⟩) hk0 ?_
          · intro W hW
            obtain ⟨k0, k1, k2, k3, k4, k5, k6, k7, k8, k9, k10, k11⟩ := hW
            clear hk0
            go_simp
            try (intro hx; exfalso; omega)
          try simp only [Act.put, List.setIfInBounds_toArray, List.set_cons_zero, List.set_cons_succ]
          refine wpAnyH_take (i := 59) (oi := { dst := some 76, op := Op.fieldAddr 66 (Operand.tmp 75) 4, type := 0, pos := "ref.go:93", after := #[{ on := 58, ground := Ground.data }, { on := 50, ground := Ground.guard }], guard := some (50, false) }) (v := .pointer (some ⟨B', o' + j * 6 + 4, none⟩)) rfl (by kernel_rfl) (by kernel_rfl) (by kernel_rfl) (fun _ _ _ h => h) (Or.inl ⟨by rfl, ?_⟩) hk0 ?_
          · intro W hW
            obtain ⟨k0, k1, k2, k3, k4, k5, k6, k7, k8, k9, k10, k11⟩ := hW
            clear hk0
            go_simp
            try (intro hx; exfalso; omega)
          try simp only [Act.put, List.setIfInBounds_toArray, List.set_cons_zero, List.set_cons_succ]
          refine wpAnyH_take (i := 60) (oi := { dst := some 77, op := Op.load 28 (Operand.tmp 76), type := 28, pos := "ref.go:93", after := #[{ on := 59, ground := Ground.data }, { on := 50, ground := Ground.guard }], guard := some (50, false) }) (v := .slice AK' mK' cK') rfl (by kernel_rfl) (by kernel_rfl) (by kernel_rfl) (fun _ _ _ h => h) (Or.inl ⟨by rfl, ?_⟩) hk0 ?_
          · intro W hW
            obtain ⟨k0, k1, k2, k3, k4, k5, k6, k7, k8, k9, k10, k11⟩ := hW
            clear hk0
            go_simp
            try (intro hx; exfalso; omega)
          try simp only [Act.put, List.setIfInBounds_toArray, List.set_cons_zero, List.set_cons_succ]
          refine wpAnyH_ready (rs := [61]) (by kernel_rfl) (by simp) ?_
          refine AllReadyH.cons (o := { dst := some 78, op := Op.call { callee := Callee.value (Operand.func 19), args := #[Operand.tmp 72, Operand.tmp 77], argTypes := #[28, 28] }, type := 4, pos := "ref.go:93", after := #[{ on := 55, ground := Ground.data }, { on := 60, ground := Ground.data }, { on := 50, ground := Ground.chain }, { on := 50, ground := Ground.guard }], guard := some (50, false) }) rfl (fun K hK => ?_) AllReadyH.nil
          go_simp
          (go_at_call 19; refine (hcK.out _ hb0).mono ?_; rintro e w5 ⟨rfl, hc⟩; have hb1 := hb0.trans (hc.mono hb0.size); have hk1 := hS.out w5 hb1; clear hc hk0)
          go_wp2_with fail
          refine hK.out _ _ hk1 (fun _ => ?_)
          clear hK K
          try simp only [Act.put, List.setIfInBounds_toArray, List.set_cons_zero, List.set_cons_succ]
          refine wpAnyH_take (i := 62) (oi := { dst := some 79, op := Op.unOp UnOp.not 4 (Operand.tmp 78), type := 4, pos := "ref.go:93", after := #[{ on := 61, ground := Ground.data }, { on := 50, ground := Ground.guard }], guard := some (50, false) }) (v := .bool true) rfl (by kernel_rfl) (by kernel_rfl) (by kernel_rfl) (fun _ _ _ h => h) (Or.inl ⟨by rfl, ?_⟩) hk1 ?_
          · intro W hW
            obtain ⟨k0, k1, k2, k3, k4, k5, k6, k7, k8, k9, k10, k11⟩ := hW
            clear hk1
            go_simp
            try (intro hx; exfalso; omega)
          try simp only [Act.put, List.setIfInBounds_toArray, List.set_cons_zero, List.set_cons_succ]
          refine wpAnyH_take (i := 63) (oi := { dst := some 80, op := Op.pick (Operand.tmp 67) (Operand.const (Value.bool true)) (Operand.tmp 79), type := 4, pos := "ref.go:93", after := #[{ on := 50, ground := Ground.data }, { on := 62, ground := Ground.data }], guard := none }) (v := .bool true) rfl (by kernel_rfl) (by kernel_rfl) (by kernel_rfl) (fun _ _ _ h => h) (Or.inl ⟨by rfl, ?_⟩) hk1 ?_
          · intro W hW
            obtain ⟨k0, k1, k2, k3, k4, k5, k6, k7, k8, k9, k10, k11⟩ := hW
            clear hk1
            go_simp
            try (intro hx; exfalso; omega)
          try simp only [Act.put, List.setIfInBounds_toArray, List.set_cons_zero, List.set_cons_succ]
          refine wpAnyH_take (i := 64) (oi := { dst := some 81, op := Op.move (Operand.tmp 80), type := 4, pos := "ref.go:93", after := #[{ on := 63, ground := Ground.data }, { on := 61, ground := Ground.chain }], guard := none }) (v := .bool true) rfl (by kernel_rfl) (by kernel_rfl) (by kernel_rfl) (fun _ _ _ h => h) (Or.inl ⟨by rfl, ?_⟩) hk1 ?_
          · intro W hW
            obtain ⟨k0, k1, k2, k3, k4, k5, k6, k7, k8, k9, k10, k11⟩ := hW
            clear hk1
            go_simp
            try (intro hx; exfalso; omega)
          try simp only [Act.put, List.setIfInBounds_toArray, List.set_cons_zero, List.set_cons_succ]
          refine wpAnyH_take (i := 65) (oi := { dst := some 82, op := Op.move (Operand.tmp 0), type := 28, pos := "ref.go:93", after := #[{ on := 64, ground := Ground.guard }], guard := some (64, false) }) (v := undef) rfl (by kernel_rfl) (by kernel_rfl) (by kernel_rfl) (fun _ _ _ h => h) (Or.inr ⟨by rfl, rfl⟩) hk1 ?_
          try simp only [Act.put, List.setIfInBounds_toArray, List.set_cons_zero, List.set_cons_succ]
          refine wpAnyH_take (i := 66) (oi := { dst := some 83, op := Op.move (Operand.tmp 5), type := 3, pos := "ref.go:93", after := #[{ on := 64, ground := Ground.guard }], guard := some (64, false) }) (v := undef) rfl (by kernel_rfl) (by kernel_rfl) (by kernel_rfl) (fun _ _ _ h => h) (Or.inr ⟨by rfl, rfl⟩) hk1 ?_
          try simp only [Act.put, List.setIfInBounds_toArray, List.set_cons_zero, List.set_cons_succ]
          refine wpAnyH_take (i := 67) (oi := { dst := some 84, op := Op.indexAddr 28 (Operand.tmp 82) (Operand.tmp 83), type := 0, pos := "ref.go:93", after := #[{ on := 65, ground := Ground.data }, { on := 66, ground := Ground.data }, { on := 64, ground := Ground.guard }], guard := some (64, false) }) (v := undef) rfl (by kernel_rfl) (by kernel_rfl) (by kernel_rfl) (fun _ _ _ h => h) (Or.inr ⟨by rfl, rfl⟩) hk1 ?_
          try simp only [Act.put, List.setIfInBounds_toArray, List.set_cons_zero, List.set_cons_succ]
          refine wpAnyH_take (i := 68) (oi := { dst := some 85, op := Op.fieldAddr 66 (Operand.tmp 84) 5, type := 0, pos := "ref.go:93", after := #[{ on := 67, ground := Ground.data }, { on := 64, ground := Ground.guard }], guard := some (64, false) }) (v := undef) rfl (by kernel_rfl) (by kernel_rfl) (by kernel_rfl) (fun _ _ _ h => h) (Or.inr ⟨by rfl, rfl⟩) hk1 ?_
          try simp only [Act.put, List.setIfInBounds_toArray, List.set_cons_zero, List.set_cons_succ]
          refine wpAnyH_take (i := 69) (oi := { dst := some 86, op := Op.load 22 (Operand.tmp 85), type := 22, pos := "ref.go:93", after := #[{ on := 68, ground := Ground.data }, { on := 64, ground := Ground.guard }], guard := some (64, false) }) (v := undef) rfl (by kernel_rfl) (by kernel_rfl) (by kernel_rfl) (fun _ _ _ h => h) (Or.inr ⟨by rfl, rfl⟩) hk1 ?_
          try simp only [Act.put, List.setIfInBounds_toArray, List.set_cons_zero, List.set_cons_succ]
          refine wpAnyH_take (i := 70) (oi := { dst := some 87, op := Op.move (Operand.tmp 1), type := 28, pos := "ref.go:93", after := #[{ on := 64, ground := Ground.guard }], guard := some (64, false) }) (v := undef) rfl (by kernel_rfl) (by kernel_rfl) (by kernel_rfl) (fun _ _ _ h => h) (Or.inr ⟨by rfl, rfl⟩) hk1 ?_
          try simp only [Act.put, List.setIfInBounds_toArray, List.set_cons_zero, List.set_cons_succ]
          refine wpAnyH_take (i := 71) (oi := { dst := some 88, op := Op.move (Operand.tmp 5), type := 3, pos := "ref.go:93", after := #[{ on := 64, ground := Ground.guard }], guard := some (64, false) }) (v := undef) rfl (by kernel_rfl) (by kernel_rfl) (by kernel_rfl) (fun _ _ _ h => h) (Or.inr ⟨by rfl, rfl⟩) hk1 ?_
          try simp only [Act.put, List.setIfInBounds_toArray, List.set_cons_zero, List.set_cons_succ]
          refine wpAnyH_take (i := 72) (oi := { dst := some 89, op := Op.indexAddr 28 (Operand.tmp 87) (Operand.tmp 88), type := 0, pos := "ref.go:93", after := #[{ on := 70, ground := Ground.data }, { on := 71, ground := Ground.data }, { on := 64, ground := Ground.guard }], guard := some (64, false) }) (v := undef) rfl (by kernel_rfl) (by kernel_rfl) (by kernel_rfl) (fun _ _ _ h => h) (Or.inr ⟨by rfl, rfl⟩) hk1 ?_
          try simp only [Act.put, List.setIfInBounds_toArray, List.set_cons_zero, List.set_cons_succ]
          refine wpAnyH_take (i := 73) (oi := { dst := some 90, op := Op.fieldAddr 66 (Operand.tmp 89) 5, type := 0, pos := "ref.go:93", after := #[{ on := 72, ground := Ground.data }, { on := 64, ground := Ground.guard }], guard := some (64, false) }) (v := undef) rfl (by kernel_rfl) (by kernel_rfl) (by kernel_rfl) (fun _ _ _ h => h) (Or.inr ⟨by rfl, rfl⟩) hk1 ?_
          try simp only [Act.put, List.setIfInBounds_toArray, List.set_cons_zero, List.set_cons_succ]
          refine wpAnyH_take (i := 74) (oi := { dst := some 91, op := Op.load 22 (Operand.tmp 90), type := 22, pos := "ref.go:93", after := #[{ on := 73, ground := Ground.data }, { on := 64, ground := Ground.guard }], guard := some (64, false) }) (v := undef) rfl (by kernel_rfl) (by kernel_rfl) (by kernel_rfl) (fun _ _ _ h => h) (Or.inr ⟨by rfl, rfl⟩) hk1 ?_
          try simp only [Act.put, List.setIfInBounds_toArray, List.set_cons_zero, List.set_cons_succ]
          refine wpAnyH_take (i := 75) (oi := { dst := some 92, op := Op.call { callee := Callee.value (Operand.func 17), args := #[Operand.tmp 86, Operand.tmp 91], argTypes := #[22, 22] }, type := 4, pos := "ref.go:93", after := #[{ on := 69, ground := Ground.data }, { on := 74, ground := Ground.data }, { on := 64, ground := Ground.chain }, { on := 64, ground := Ground.guard }], guard := some (64, false) }) (v := undef) rfl (by kernel_rfl) (by kernel_rfl) (by kernel_rfl) (fun _ _ _ h => h) (Or.inr ⟨by rfl, rfl⟩) hk1 ?_
          try simp only [Act.put, List.setIfInBounds_toArray, List.set_cons_zero, List.set_cons_succ]
          refine wpAnyH_take (i := 76) (oi := { dst := some 93, op := Op.unOp UnOp.not 4 (Operand.tmp 92), type := 4, pos := "ref.go:93", after := #[{ on := 75, ground := Ground.data }, { on := 64, ground := Ground.guard }], guard := some (64, false) }) (v := undef) rfl (by kernel_rfl) (by kernel_rfl) (by kernel_rfl) (fun _ _ _ h => h) (Or.inr ⟨by rfl, rfl⟩) hk1 ?_
          try simp only [Act.put, List.setIfInBounds_toArray, List.set_cons_zero, List.set_cons_succ]
          refine wpAnyH_take (i := 77) (oi := { dst := some 94, op := Op.pick (Operand.tmp 81) (Operand.const (Value.bool true)) (Operand.tmp 93), type := 4, pos := "ref.go:93", after := #[{ on := 64, ground := Ground.data }, { on := 76, ground := Ground.data }], guard := none }) (v := .bool true) rfl (by kernel_rfl) (by kernel_rfl) (by kernel_rfl) (fun _ _ _ h => h) (Or.inl ⟨by rfl, ?_⟩) hk1 ?_
          · intro W hW
            obtain ⟨k0, k1, k2, k3, k4, k5, k6, k7, k8, k9, k10, k11⟩ := hW
            clear hk1
            go_simp
            try (intro hx; exfalso; omega)
          try simp only [Act.put, List.setIfInBounds_toArray, List.set_cons_zero, List.set_cons_succ]
          refine wpAnyH_done (by kernel_rfl) ?_ _
          have hBE := Lib.hid (hB.out.trans (hb1.mono hB.out.size))
          have hWR := Lib.hid hb1
          clear hb0 hb1 hk1 hS hend hcK hcY
          subst hsE
          go_wp2
          go_ret
          exact ⟨rfl, hBE.out⟩
        | true =>
          cases QY with
          | false => as_aux_lemma =>
            have hsE : X = false := by rw [hgo.out]; simp
            clear hgo
            refine wp_region_held_drew (S := fun W => W.cell? ⟨B, o + j * 6, none⟩ = some (.int .i64 k) ∧ W.cell? ⟨B, o + j * 6 + 1, none⟩ = some (.string t) ∧ W.cell? ⟨B, o + j * 6 + 2, none⟩ = some (.int .i64 p) ∧ W.cell? ⟨B, o + j * 6 + 3, none⟩ = some (.bool c) ∧ W.cell? ⟨B, o + j * 6 + 4, none⟩ = some (.slice AK mK cK) ∧ W.cell? ⟨B, o + j * 6 + 5, none⟩ = some (.slice AY mY cY) ∧ W.cell? ⟨B', o' + j * 6, none⟩ = some (.int .i64 k) ∧ W.cell? ⟨B', o' + j * 6 + 1, none⟩ = some (.string t) ∧ W.cell? ⟨B', o' + j * 6 + 2, none⟩ = some (.int .i64 p) ∧ W.cell? ⟨B', o' + j * 6 + 3, none⟩ = some (.bool c) ∧ W.cell? ⟨B', o' + j * 6 + 4, none⟩ = some (.slice AK' mK' cK') ∧ W.cell? ⟨B', o' + j * 6 + 5, none⟩ = some (.slice AY' mY' cY')) (by kernel_rfl) hk0 (fun _ => ?_)
            refine wpAnyH_take (i := 0) (oi := { dst := some 17, op := Op.move (Operand.tmp 0), type := 28, pos := "ref.go:93", after := #[], guard := none }) (v := .slice (some ⟨B, o, none⟩) N cap0) rfl (by kernel_rfl) (by kernel_rfl) (by kernel_rfl) (fun _ _ _ h => h) (Or.inl ⟨by rfl, ?_⟩) hk0 ?_
            · intro W hW
              obtain ⟨k0, k1, k2, k3, k4, k5, k6, k7, k8, k9, k10, k11⟩ := hW
              clear hk0
              go_simp
              try (intro hx; exfalso; omega)
            try simp only [Act.put, List.setIfInBounds_toArray, List.set_cons_zero, List.set_cons_succ]
            refine wpAnyH_take (i := 1) (oi := { dst := some 18, op := Op.move (Operand.tmp 5), type := 3, pos := "ref.go:93", after := #[], guard := none }) (v := .int .i64 (j : Int)) rfl (by kernel_rfl) (by kernel_rfl) (by kernel_rfl) (fun _ _ _ h => h) (Or.inl ⟨by rfl, ?_⟩) hk0 ?_
            · intro W hW
              obtain ⟨k0, k1, k2, k3, k4, k5, k6, k7, k8, k9, k10, k11⟩ := hW
              clear hk0
              go_simp
              try (intro hx; exfalso; omega)
            try simp only [Act.put, List.setIfInBounds_toArray, List.set_cons_zero, List.set_cons_succ]
            refine wpAnyH_take (i := 2) (oi := { dst := some 19, op := Op.indexAddr 28 (Operand.tmp 17) (Operand.tmp 18), type := 0, pos := "ref.go:93", after := #[{ on := 0, ground := Ground.data }, { on := 1, ground := Ground.data }], guard := none }) (v := .pointer (some ⟨B, o + j * 6, none⟩)) rfl (by kernel_rfl) (by kernel_rfl) (by kernel_rfl) (fun _ _ _ h => h) (Or.inl ⟨by rfl, ?_⟩) hk0 ?_
            · intro W hW
              obtain ⟨k0, k1, k2, k3, k4, k5, k6, k7, k8, k9, k10, k11⟩ := hW
              clear hk0
              go_simp
              try (intro hx; exfalso; omega)
            try simp only [Act.put, List.setIfInBounds_toArray, List.set_cons_zero, List.set_cons_succ]
            refine wpAnyH_take (i := 3) (oi := { dst := some 20, op := Op.fieldAddr 66 (Operand.tmp 19) 0, type := 0, pos := "ref.go:93", after := #[{ on := 2, ground := Ground.data }], guard := none }) (v := .pointer (some ⟨B, o + j * 6, none⟩)) rfl (by kernel_rfl) (by kernel_rfl) (by kernel_rfl) (fun _ _ _ h => h) (Or.inl ⟨by rfl, ?_⟩) hk0 ?_
            · intro W hW
              obtain ⟨k0, k1, k2, k3, k4, k5, k6, k7, k8, k9, k10, k11⟩ := hW
              clear hk0
              go_simp
              try (intro hx; exfalso; omega)
            try simp only [Act.put, List.setIfInBounds_toArray, List.set_cons_zero, List.set_cons_succ]
            refine wpAnyH_take (i := 4) (oi := { dst := some 21, op := Op.load 3 (Operand.tmp 20), type := 3, pos := "ref.go:93", after := #[{ on := 3, ground := Ground.data }], guard := none }) (v := .int .i64 k) rfl (by kernel_rfl) (by kernel_rfl) (by kernel_rfl) (fun _ _ _ h => h) (Or.inl ⟨by rfl, ?_⟩) hk0 ?_
            · intro W hW
              obtain ⟨k0, k1, k2, k3, k4, k5, k6, k7, k8, k9, k10, k11⟩ := hW
              clear hk0
              go_simp
              try (intro hx; exfalso; omega)
            try simp only [Act.put, List.setIfInBounds_toArray, List.set_cons_zero, List.set_cons_succ]
            refine wpAnyH_take (i := 5) (oi := { dst := some 22, op := Op.move (Operand.tmp 1), type := 28, pos := "ref.go:93", after := #[], guard := none }) (v := .slice (some ⟨B', o', none⟩) N cap0') rfl (by kernel_rfl) (by kernel_rfl) (by kernel_rfl) (fun _ _ _ h => h) (Or.inl ⟨by rfl, ?_⟩) hk0 ?_
            · intro W hW
              obtain ⟨k0, k1, k2, k3, k4, k5, k6, k7, k8, k9, k10, k11⟩ := hW
              clear hk0
              go_simp
              try (intro hx; exfalso; omega)
            try simp only [Act.put, List.setIfInBounds_toArray, List.set_cons_zero, List.set_cons_succ]
            refine wpAnyH_take (i := 6) (oi := { dst := some 23, op := Op.move (Operand.tmp 5), type := 3, pos := "ref.go:93", after := #[], guard := none }) (v := .int .i64 (j : Int)) rfl (by kernel_rfl) (by kernel_rfl) (by kernel_rfl) (fun _ _ _ h => h) (Or.inl ⟨by rfl, ?_⟩) hk0 ?_
            · intro W hW
              obtain ⟨k0, k1, k2, k3, k4, k5, k6, k7, k8, k9, k10, k11⟩ := hW
              clear hk0
              go_simp
              try (intro hx; exfalso; omega)
            try simp only [Act.put, List.setIfInBounds_toArray, List.set_cons_zero, List.set_cons_succ]
            refine wpAnyH_take (i := 7) (oi := { dst := some 24, op := Op.indexAddr 28 (Operand.tmp 22) (Operand.tmp 23), type := 0, pos := "ref.go:93", after := #[{ on := 5, ground := Ground.data }, { on := 6, ground := Ground.data }], guard := none }) (v := .pointer (some ⟨B', o' + j * 6, none⟩)) rfl (by kernel_rfl) (by kernel_rfl) (by kernel_rfl) (fun _ _ _ h => h) (Or.inl ⟨by rfl, ?_⟩) hk0 ?_
            · intro W hW
              obtain ⟨k0, k1, k2, k3, k4, k5, k6, k7, k8, k9, k10, k11⟩ := hW
              clear hk0
              go_simp
              try (intro hx; exfalso; omega)
            try simp only [Act.put, List.setIfInBounds_toArray, List.set_cons_zero, List.set_cons_succ]
            refine wpAnyH_take (i := 8) (oi := { dst := some 25, op := Op.fieldAddr 66 (Operand.tmp 24) 0, type := 0, pos := "ref.go:93", after := #[{ on := 7, ground := Ground.data }], guard := none }) (v := .pointer (some ⟨B', o' + j * 6, none⟩)) rfl (by kernel_rfl) (by kernel_rfl) (by kernel_rfl) (fun _ _ _ h => h) (Or.inl ⟨by rfl, ?_⟩) hk0 ?_
            · intro W hW
              obtain ⟨k0, k1, k2, k3, k4, k5, k6, k7, k8, k9, k10, k11⟩ := hW
              clear hk0
              go_simp
              try (intro hx; exfalso; omega)
            try simp only [Act.put, List.setIfInBounds_toArray, List.set_cons_zero, List.set_cons_succ]
            refine wpAnyH_take (i := 9) (oi := { dst := some 26, op := Op.load 3 (Operand.tmp 25), type := 3, pos := "ref.go:93", after := #[{ on := 8, ground := Ground.data }], guard := none }) (v := .int .i64 k) rfl (by kernel_rfl) (by kernel_rfl) (by kernel_rfl) (fun _ _ _ h => h) (Or.inl ⟨by rfl, ?_⟩) hk0 ?_
            · intro W hW
              obtain ⟨k0, k1, k2, k3, k4, k5, k6, k7, k8, k9, k10, k11⟩ := hW
              clear hk0
              go_simp
              try (intro hx; exfalso; omega)
            try simp only [Act.put, List.setIfInBounds_toArray, List.set_cons_zero, List.set_cons_succ]
            refine wpAnyH_take (i := 10) (oi := { dst := some 27, op := Op.binOp BinOp.neq 3 (Operand.tmp 21) (Operand.tmp 26) 3, type := 4, pos := "ref.go:93", after := #[{ on := 4, ground := Ground.data }, { on := 9, ground := Ground.data }], guard := none }) (v := .bool false) rfl (by kernel_rfl) (by kernel_rfl) (by kernel_rfl) (fun _ _ _ h => h) (Or.inl ⟨by rfl, ?_⟩) hk0 ?_
            · intro W hW
              obtain ⟨k0, k1, k2, k3, k4, k5, k6, k7, k8, k9, k10, k11⟩ := hW
              clear hk0
              go_simp
              try (intro hx; exfalso; omega)
            try simp only [Act.put, List.setIfInBounds_toArray, List.set_cons_zero, List.set_cons_succ]
            refine wpAnyH_take (i := 11) (oi := { dst := some 28, op := Op.move (Operand.tmp 27), type := 4, pos := "ref.go:93", after := #[{ on := 10, ground := Ground.data }], guard := none }) (v := .bool false) rfl (by kernel_rfl) (by kernel_rfl) (by kernel_rfl) (fun _ _ _ h => h) (Or.inl ⟨by rfl, ?_⟩) hk0 ?_
            · intro W hW
              obtain ⟨k0, k1, k2, k3, k4, k5, k6, k7, k8, k9, k10, k11⟩ := hW
              clear hk0
              go_simp
              try (intro hx; exfalso; omega)
            try simp only [Act.put, List.setIfInBounds_toArray, List.set_cons_zero, List.set_cons_succ]
            refine wpAnyH_take (i := 12) (oi := { dst := some 29, op := Op.move (Operand.tmp 0), type := 28, pos := "ref.go:93", after := #[{ on := 11, ground := Ground.guard }], guard := some (11, false) }) (v := .slice (some ⟨B, o, none⟩) N cap0) rfl (by kernel_rfl) (by kernel_rfl) (by kernel_rfl) (fun _ _ _ h => h) (Or.inl ⟨by rfl, ?_⟩) hk0 ?_
            · intro W hW
              obtain ⟨k0, k1, k2, k3, k4, k5, k6, k7, k8, k9, k10, k11⟩ := hW
              clear hk0
              go_simp
              try (intro hx; exfalso; omega)
            try simp only [Act.put, List.setIfInBounds_toArray, List.set_cons_zero, List.set_cons_succ]
            refine wpAnyH_take (i := 13) (oi := { dst := some 30, op := Op.move (Operand.tmp 5), type := 3, pos := "ref.go:93", after := #[{ on := 11, ground := Ground.guard }], guard := some (11, false) }) (v := .int .i64 (j : Int)) rfl (by kernel_rfl) (by kernel_rfl) (by kernel_rfl) (fun _ _ _ h => h) (Or.inl ⟨by rfl, ?_⟩) hk0 ?_
            · intro W hW
              obtain ⟨k0, k1, k2, k3, k4, k5, k6, k7, k8, k9, k10, k11⟩ := hW
              clear hk0
              go_simp
              try (intro hx; exfalso; omega)
            try simp only [Act.put, List.setIfInBounds_toArray, List.set_cons_zero, List.set_cons_succ]
            refine wpAnyH_take (i := 14) (oi := { dst := some 31, op := Op.indexAddr 28 (Operand.tmp 29) (Operand.tmp 30), type := 0, pos := "ref.go:93", after := #[{ on := 12, ground := Ground.data }, { on := 13, ground := Ground.data }, { on := 11, ground := Ground.guard }], guard := some (11, false) }) (v := .pointer (some ⟨B, o + j * 6, none⟩)) rfl (by kernel_rfl) (by kernel_rfl) (by kernel_rfl) (fun _ _ _ h => h) (Or.inl ⟨by rfl, ?_⟩) hk0 ?_
            · intro W hW
              obtain ⟨k0, k1, k2, k3, k4, k5, k6, k7, k8, k9, k10, k11⟩ := hW
              clear hk0
              go_simp
              try (intro hx; exfalso; omega)
            try simp only [Act.put, List.setIfInBounds_toArray, List.set_cons_zero, List.set_cons_succ]
            refine wpAnyH_take (i := 15) (oi := { dst := some 32, op := Op.fieldAddr 66 (Operand.tmp 31) 1, type := 0, pos := "ref.go:93", after := #[{ on := 14, ground := Ground.data }, { on := 11, ground := Ground.guard }], guard := some (11, false) }) (v := .pointer (some ⟨B, o + j * 6 + 1, none⟩)) rfl (by kernel_rfl) (by kernel_rfl) (by kernel_rfl) (fun _ _ _ h => h) (Or.inl ⟨by rfl, ?_⟩) hk0 ?_
            · intro W hW
              obtain ⟨k0, k1, k2, k3, k4, k5, k6, k7, k8, k9, k10, k11⟩ := hW
              clear hk0
              go_simp
              try (intro hx; exfalso; omega)
            try simp only [Act.put, List.setIfInBounds_toArray, List.set_cons_zero, List.set_cons_succ]
            refine wpAnyH_take (i := 16) (oi := { dst := some 33, op := Op.load 9 (Operand.tmp 32), type := 9, pos := "ref.go:93", after := #[{ on := 15, ground := Ground.data }, { on := 11, ground := Ground.guard }], guard := some (11, false) }) (v := .string t) rfl (by kernel_rfl) (by kernel_rfl) (by kernel_rfl) (fun _ _ _ h => h) (Or.inl ⟨by rfl, ?_⟩) hk0 ?_
            · intro W hW
              obtain ⟨k0, k1, k2, k3, k4, k5, k6, k7, k8, k9, k10, k11⟩ := hW
              clear hk0
              go_simp
              try (intro hx; exfalso; omega)
            try simp only [Act.put, List.setIfInBounds_toArray, List.set_cons_zero, List.set_cons_succ]
            refine wpAnyH_take (i := 17) (oi := { dst := some 34, op := Op.move (Operand.tmp 1), type := 28, pos := "ref.go:93", after := #[{ on := 11, ground := Ground.guard }], guard := some (11, false) }) (v := .slice (some ⟨B', o', none⟩) N cap0') rfl (by kernel_rfl) (by kernel_rfl) (by kernel_rfl) (fun _ _ _ h => h) (Or.inl ⟨by rfl, ?_⟩) hk0 ?_
            · intro W hW
              obtain ⟨k0, k1, k2, k3, k4, k5, k6, k7, k8, k9, k10, k11⟩ := hW
              clear hk0
              go_simp
              try (intro hx; exfalso; omega)
            try simp only [Act.put, List.setIfInBounds_toArray, List.set_cons_zero, List.set_cons_succ]
            refine wpAnyH_take (i := 18) (oi := { dst := some 35, op := Op.move (Operand.tmp 5), type := 3, pos := "ref.go:93", after := #[{ on := 11, ground := Ground.guard }], guard := some (11, false) }) (v := .int .i64 (j : Int)) rfl (by kernel_rfl) (by kernel_rfl) (by kernel_rfl) (fun _ _ _ h => h) (Or.inl ⟨by rfl, ?_⟩) hk0 ?_
            · intro W hW
              obtain ⟨k0, k1, k2, k3, k4, k5, k6, k7, k8, k9, k10, k11⟩ := hW
              clear hk0
              go_simp
              try (intro hx; exfalso; omega)
            try simp only [Act.put, List.setIfInBounds_toArray, List.set_cons_zero, List.set_cons_succ]
            refine wpAnyH_take (i := 19) (oi := { dst := some 36, op := Op.indexAddr 28 (Operand.tmp 34) (Operand.tmp 35), type := 0, pos := "ref.go:93", after := #[{ on := 17, ground := Ground.data }, { on := 18, ground := Ground.data }, { on := 11, ground := Ground.guard }], guard := some (11, false) }) (v := .pointer (some ⟨B', o' + j * 6, none⟩)) rfl (by kernel_rfl) (by kernel_rfl) (by kernel_rfl) (fun _ _ _ h => h) (Or.inl ⟨by rfl, ?_⟩) hk0 ?_
            · intro W hW
              obtain ⟨k0, k1, k2, k3, k4, k5, k6, k7, k8, k9, k10, k11⟩ := hW
              clear hk0
              go_simp
              try (intro hx; exfalso; omega)
            try simp only [Act.put, List.setIfInBounds_toArray, List.set_cons_zero, List.set_cons_succ]
            refine wpAnyH_take (i := 20) (oi := { dst := some 37, op := Op.fieldAddr 66 (Operand.tmp 36) 1, type := 0, pos := "ref.go:93", after := #[{ on := 19, ground := Ground.data }, { on := 11, ground := Ground.guard }], guard := some (11, false) }) (v := .pointer (some ⟨B', o' + j * 6 + 1, none⟩)) rfl (by kernel_rfl) (by kernel_rfl) (by kernel_rfl) (fun _ _ _ h => h) (Or.inl ⟨by rfl, ?_⟩) hk0 ?_
            · intro W hW
              obtain ⟨k0, k1, k2, k3, k4, k5, k6, k7, k8, k9, k10, k11⟩ := hW
              clear hk0
              go_simp
              try (intro hx; exfalso; omega)
            try simp only [Act.put, List.setIfInBounds_toArray, List.set_cons_zero, List.set_cons_succ]
            refine wpAnyH_take (i := 21) (oi := { dst := some 38, op := Op.load 9 (Operand.tmp 37), type := 9, pos := "ref.go:93", after := #[{ on := 20, ground := Ground.data }, { on := 11, ground := Ground.guard }], guard := some (11, false) }) (v := .string t) rfl (by kernel_rfl) (by kernel_rfl) (by kernel_rfl) (fun _ _ _ h => h) (Or.inl ⟨by rfl, ?_⟩) hk0 ?_
            · intro W hW
              obtain ⟨k0, k1, k2, k3, k4, k5, k6, k7, k8, k9, k10, k11⟩ := hW
              clear hk0
              go_simp
              try (intro hx; exfalso; omega)
            try simp only [Act.put, List.setIfInBounds_toArray, List.set_cons_zero, List.set_cons_succ]
            refine wpAnyH_take (i := 22) (oi := { dst := some 39, op := Op.binOp BinOp.neq 9 (Operand.tmp 33) (Operand.tmp 38) 9, type := 4, pos := "ref.go:93", after := #[{ on := 16, ground := Ground.data }, { on := 21, ground := Ground.data }, { on := 11, ground := Ground.guard }], guard := some (11, false) }) (v := .bool false) rfl (by kernel_rfl) (by kernel_rfl) (by kernel_rfl) (fun _ _ _ h => h) (Or.inl ⟨by rfl, ?_⟩) hk0 ?_
            · intro W hW
              obtain ⟨k0, k1, k2, k3, k4, k5, k6, k7, k8, k9, k10, k11⟩ := hW
              clear hk0
              go_simp
              try (intro hx; exfalso; omega)
            try simp only [Act.put, List.setIfInBounds_toArray, List.set_cons_zero, List.set_cons_succ]
            refine wpAnyH_take (i := 23) (oi := { dst := some 40, op := Op.pick (Operand.tmp 28) (Operand.const (Value.bool true)) (Operand.tmp 39), type := 4, pos := "ref.go:93", after := #[{ on := 11, ground := Ground.data }, { on := 22, ground := Ground.data }], guard := none }) (v := .bool false) rfl (by kernel_rfl) (by kernel_rfl) (by kernel_rfl) (fun _ _ _ h => h) (Or.inl ⟨by rfl, ?_⟩) hk0 ?_
            · intro W hW
              obtain ⟨k0, k1, k2, k3, k4, k5, k6, k7, k8, k9, k10, k11⟩ := hW
              clear hk0
              go_simp
              try (intro hx; exfalso; omega)
            try simp only [Act.put, List.setIfInBounds_toArray, List.set_cons_zero, List.set_cons_succ]
            refine wpAnyH_take (i := 24) (oi := { dst := some 41, op := Op.move (Operand.tmp 40), type := 4, pos := "ref.go:93", after := #[{ on := 23, ground := Ground.data }, { on := 11, ground := Ground.chain }], guard := none }) (v := .bool false) rfl (by kernel_rfl) (by kernel_rfl) (by kernel_rfl) (fun _ _ _ h => h) (Or.inl ⟨by rfl, ?_⟩) hk0 ?_
            · intro W hW
              obtain ⟨k0, k1, k2, k3, k4, k5, k6, k7, k8, k9, k10, k11⟩ := hW
              clear hk0
              go_simp
              try (intro hx; exfalso; omega)
            try simp only [Act.put, List.setIfInBounds_toArray, List.set_cons_zero, List.set_cons_succ]
            refine wpAnyH_take (i := 25) (oi := { dst := some 42, op := Op.move (Operand.tmp 0), type := 28, pos := "ref.go:93", after := #[{ on := 24, ground := Ground.guard }], guard := some (24, false) }) (v := .slice (some ⟨B, o, none⟩) N cap0) rfl (by kernel_rfl) (by kernel_rfl) (by kernel_rfl) (fun _ _ _ h => h) (Or.inl ⟨by rfl, ?_⟩) hk0 ?_
            · intro W hW
              obtain ⟨k0, k1, k2, k3, k4, k5, k6, k7, k8, k9, k10, k11⟩ := hW
              clear hk0
              go_simp
              try (intro hx; exfalso; omega)
            try simp only [Act.put, List.setIfInBounds_toArray, List.set_cons_zero, List.set_cons_succ]
            refine wpAnyH_take (i := 26) (oi := { dst := some 43, op := Op.move (Operand.tmp 5), type := 3, pos := "ref.go:93", after := #[{ on := 24, ground := Ground.guard }], guard := some (24, false) }) (v := .int .i64 (j : Int)) rfl (by kernel_rfl) (by kernel_rfl) (by kernel_rfl) (fun _ _ _ h => h) (Or.inl ⟨by rfl, ?_⟩) hk0 ?_
            · intro W hW
              obtain ⟨k0, k1, k2, k3, k4, k5, k6, k7, k8, k9, k10, k11⟩ := hW
              clear hk0
              go_simp
              try (intro hx; exfalso; omega)
            try simp only [Act.put, List.setIfInBounds_toArray, List.set_cons_zero, List.set_cons_succ]
            refine wpAnyH_take (i := 27) (oi := { dst := some 44, op := Op.indexAddr 28 (Operand.tmp 42) (Operand.tmp 43), type := 0, pos := "ref.go:93", after := #[{ on := 25, ground := Ground.data }, { on := 26, ground := Ground.data }, { on := 24, ground := Ground.guard }], guard := some (24, false) }) (v := .pointer (some ⟨B, o + j * 6, none⟩)) rfl (by kernel_rfl) (by kernel_rfl) (by kernel_rfl) (fun _ _ _ h => h) (Or.inl ⟨by rfl, ?_⟩) hk0 ?_
            · intro W hW
              obtain ⟨k0, k1, k2, k3, k4, k5, k6, k7, k8, k9, k10, k11⟩ := hW
              clear hk0
              go_simp
              try (intro hx; exfalso; omega)
            try simp only [Act.put, List.setIfInBounds_toArray, List.set_cons_zero, List.set_cons_succ]
            refine wpAnyH_take (i := 28) (oi := { dst := some 45, op := Op.fieldAddr 66 (Operand.tmp 44) 2, type := 0, pos := "ref.go:93", after := #[{ on := 27, ground := Ground.data }, { on := 24, ground := Ground.guard }], guard := some (24, false) }) (v := .pointer (some ⟨B, o + j * 6 + 2, none⟩)) rfl (by kernel_rfl) (by kernel_rfl) (by kernel_rfl) (fun _ _ _ h => h) (Or.inl ⟨by rfl, ?_⟩) hk0 ?_
            · intro W hW
              obtain ⟨k0, k1, k2, k3, k4, k5, k6, k7, k8, k9, k10, k11⟩ := hW
              clear hk0
              go_simp
              try (intro hx; exfalso; omega)
            try simp only [Act.put, List.setIfInBounds_toArray, List.set_cons_zero, List.set_cons_succ]
            refine wpAnyH_take (i := 29) (oi := { dst := some 46, op := Op.load 3 (Operand.tmp 45), type := 3, pos := "ref.go:93", after := #[{ on := 28, ground := Ground.data }, { on := 24, ground := Ground.guard }], guard := some (24, false) }) (v := .int .i64 p) rfl (by kernel_rfl) (by kernel_rfl) (by kernel_rfl) (fun _ _ _ h => h) (Or.inl ⟨by rfl, ?_⟩) hk0 ?_
            · intro W hW
              obtain ⟨k0, k1, k2, k3, k4, k5, k6, k7, k8, k9, k10, k11⟩ := hW
              clear hk0
              go_simp
              try (intro hx; exfalso; omega)
            try simp only [Act.put, List.setIfInBounds_toArray, List.set_cons_zero, List.set_cons_succ]
            refine wpAnyH_take (i := 30) (oi := { dst := some 47, op := Op.move (Operand.tmp 1), type := 28, pos := "ref.go:93", after := #[{ on := 24, ground := Ground.guard }], guard := some (24, false) }) (v := .slice (some ⟨B', o', none⟩) N cap0') rfl (by kernel_rfl) (by kernel_rfl) (by kernel_rfl) (fun _ _ _ h => h) (Or.inl ⟨by rfl, ?_⟩) hk0 ?_
            · intro W hW
              obtain ⟨k0, k1, k2, k3, k4, k5, k6, k7, k8, k9, k10, k11⟩ := hW
              clear hk0
              go_simp
              try (intro hx; exfalso; omega)
            try simp only [Act.put, List.setIfInBounds_toArray, List.set_cons_zero, List.set_cons_succ]
            refine wpAnyH_take (i := 31) (oi := { dst := some 48, op := Op.move (Operand.tmp 5), type := 3, pos := "ref.go:93", after := #[{ on := 24, ground := Ground.guard }], guard := some (24, false) }) (v := .int .i64 (j : Int)) rfl (by kernel_rfl) (by kernel_rfl) (by kernel_rfl) (fun _ _ _ h => h) (Or.inl ⟨by rfl, ?_⟩) hk0 ?_
            · intro W hW
              obtain ⟨k0, k1, k2, k3, k4, k5, k6, k7, k8, k9, k10, k11⟩ := hW
              clear hk0
              go_simp
              try (intro hx; exfalso; omega)
            try simp only [Act.put, List.setIfInBounds_toArray, List.set_cons_zero, List.set_cons_succ]
            refine wpAnyH_take (i := 32) (oi := { dst := some 49, op := Op.indexAddr 28 (Operand.tmp 47) (Operand.tmp 48), type := 0, pos := "ref.go:93", after := #[{ on := 30, ground := Ground.data }, { on := 31, ground := Ground.data }, { on := 24, ground := Ground.guard }], guard := some (24, false) }) (v := .pointer (some ⟨B', o' + j * 6, none⟩)) rfl (by kernel_rfl) (by kernel_rfl) (by kernel_rfl) (fun _ _ _ h => h) (Or.inl ⟨by rfl, ?_⟩) hk0 ?_
            · intro W hW
              obtain ⟨k0, k1, k2, k3, k4, k5, k6, k7, k8, k9, k10, k11⟩ := hW
              clear hk0
              go_simp
              try (intro hx; exfalso; omega)
            try simp only [Act.put, List.setIfInBounds_toArray, List.set_cons_zero, List.set_cons_succ]
            refine wpAnyH_take (i := 33) (oi := { dst := some 50, op := Op.fieldAddr 66 (Operand.tmp 49) 2, type := 0, pos := "ref.go:93", after := #[{ on := 32, ground := Ground.data }, { on := 24, ground := Ground.guard }], guard := some (24, false) }) (v := .pointer (some ⟨B', o' + j * 6 + 2, none⟩)) rfl (by kernel_rfl) (by kernel_rfl) (by kernel_rfl) (fun _ _ _ h => h) (Or.inl ⟨by rfl, ?_⟩) hk0 ?_
            · intro W hW
              obtain ⟨k0, k1, k2, k3, k4, k5, k6, k7, k8, k9, k10, k11⟩ := hW
              clear hk0
              go_simp
              try (intro hx; exfalso; omega)
            try simp only [Act.put, List.setIfInBounds_toArray, List.set_cons_zero, List.set_cons_succ]
            refine wpAnyH_take (i := 34) (oi := { dst := some 51, op := Op.load 3 (Operand.tmp 50), type := 3, pos := "ref.go:93", after := #[{ on := 33, ground := Ground.data }, { on := 24, ground := Ground.guard }], guard := some (24, false) }) (v := .int .i64 p) rfl (by kernel_rfl) (by kernel_rfl) (by kernel_rfl) (fun _ _ _ h => h) (Or.inl ⟨by rfl, ?_⟩) hk0 ?_
            · intro W hW
              obtain ⟨k0, k1, k2, k3, k4, k5, k6, k7, k8, k9, k10, k11⟩ := hW
              clear hk0
              go_simp
              try (intro hx; exfalso; omega)
            try simp only [Act.put, List.setIfInBounds_toArray, List.set_cons_zero, List.set_cons_succ]
            refine wpAnyH_take (i := 35) (oi := { dst := some 52, op := Op.binOp BinOp.neq 3 (Operand.tmp 46) (Operand.tmp 51) 3, type := 4, pos := "ref.go:93", after := #[{ on := 29, ground := Ground.data }, { on := 34, ground := Ground.data }, { on := 24, ground := Ground.guard }], guard := some (24, false) }) (v := .bool false) rfl (by kernel_rfl) (by kernel_rfl) (by kernel_rfl) (fun _ _ _ h => h) (Or.inl ⟨by rfl, ?_⟩) hk0 ?_
            · intro W hW
              obtain ⟨k0, k1, k2, k3, k4, k5, k6, k7, k8, k9, k10, k11⟩ := hW
              clear hk0
              go_simp
              try (intro hx; exfalso; omega)
            try simp only [Act.put, List.setIfInBounds_toArray, List.set_cons_zero, List.set_cons_succ]
            refine wpAnyH_take (i := 36) (oi := { dst := some 53, op := Op.pick (Operand.tmp 41) (Operand.const (Value.bool true)) (Operand.tmp 52), type := 4, pos := "ref.go:93", after := #[{ on := 24, ground := Ground.data }, { on := 35, ground := Ground.data }], guard := none }) (v := .bool false) rfl (by kernel_rfl) (by kernel_rfl) (by kernel_rfl) (fun _ _ _ h => h) (Or.inl ⟨by rfl, ?_⟩) hk0 ?_
            · intro W hW
              obtain ⟨k0, k1, k2, k3, k4, k5, k6, k7, k8, k9, k10, k11⟩ := hW
              clear hk0
              go_simp
              try (intro hx; exfalso; omega)
            try simp only [Act.put, List.setIfInBounds_toArray, List.set_cons_zero, List.set_cons_succ]
            refine wpAnyH_take (i := 37) (oi := { dst := some 54, op := Op.move (Operand.tmp 53), type := 4, pos := "ref.go:93", after := #[{ on := 36, ground := Ground.data }, { on := 24, ground := Ground.chain }], guard := none }) (v := .bool false) rfl (by kernel_rfl) (by kernel_rfl) (by kernel_rfl) (fun _ _ _ h => h) (Or.inl ⟨by rfl, ?_⟩) hk0 ?_
            · intro W hW
              obtain ⟨k0, k1, k2, k3, k4, k5, k6, k7, k8, k9, k10, k11⟩ := hW
              clear hk0
              go_simp
              try (intro hx; exfalso; omega)
            try simp only [Act.put, List.setIfInBounds_toArray, List.set_cons_zero, List.set_cons_succ]
            refine wpAnyH_take (i := 38) (oi := { dst := some 55, op := Op.move (Operand.tmp 0), type := 28, pos := "ref.go:93", after := #[{ on := 37, ground := Ground.guard }], guard := some (37, false) }) (v := .slice (some ⟨B, o, none⟩) N cap0) rfl (by kernel_rfl) (by kernel_rfl) (by kernel_rfl) (fun _ _ _ h => h) (Or.inl ⟨by rfl, ?_⟩) hk0 ?_
            · intro W hW
              obtain ⟨k0, k1, k2, k3, k4, k5, k6, k7, k8, k9, k10, k11⟩ := hW
              clear hk0
              go_simp
              try (intro hx; exfalso; omega)
            try simp only [Act.put, List.setIfInBounds_toArray, List.set_cons_zero, List.set_cons_succ]
            refine wpAnyH_take (i := 39) (oi := { dst := some 56, op := Op.move (Operand.tmp 5), type := 3, pos := "ref.go:93", after := #[{ on := 37, ground := Ground.guard }], guard := some (37, false) }) (v := .int .i64 (j : Int)) rfl (by kernel_rfl) (by kernel_rfl) (by kernel_rfl) (fun _ _ _ h => h) (Or.inl ⟨by rfl, ?_⟩) hk0 ?_
            · intro W hW
              obtain ⟨k0, k1, k2, k3, k4, k5, k6, k7, k8, k9, k10, k11⟩ := hW
              clear hk0
              go_simp
              try (intro hx; exfalso; omega)
            try simp only [Act.put, List.setIfInBounds_toArray, List.set_cons_zero, List.set_cons_succ]
            refine wpAnyH_take (i := 40) (oi := { dst := some 57, op := Op.indexAddr 28 (Operand.tmp 55) (Operand.tmp 56), type := 0, pos := "ref.go:93", after := #[{ on := 38, ground := Ground.data }, { on := 39, ground := Ground.data }, { on := 37, ground := Ground.guard }], guard := some (37, false) }) (v := .pointer (some ⟨B, o + j * 6, none⟩)) rfl (by kernel_rfl) (by kernel_rfl) (by kernel_rfl) (fun _ _ _ h => h) (Or.inl ⟨by rfl, ?_⟩) hk0 ?_
            · intro W hW
              obtain ⟨k0, k1, k2, k3, k4, k5, k6, k7, k8, k9, k10, k11⟩ := hW
              clear hk0
              go_simp
              try (intro hx; exfalso; omega)
            try simp only [Act.put, List.setIfInBounds_toArray, List.set_cons_zero, List.set_cons_succ]
            refine wpAnyH_take (i := 41) (oi := { dst := some 58, op := Op.fieldAddr 66 (Operand.tmp 57) 3, type := 0, pos := "ref.go:93", after := #[{ on := 40, ground := Ground.data }, { on := 37, ground := Ground.guard }], guard := some (37, false) }) (v := .pointer (some ⟨B, o + j * 6 + 3, none⟩)) rfl (by kernel_rfl) (by kernel_rfl) (by kernel_rfl) (fun _ _ _ h => h) (Or.inl ⟨by rfl, ?_⟩) hk0 ?_
            · intro W hW
              obtain ⟨k0, k1, k2, k3, k4, k5, k6, k7, k8, k9, k10, k11⟩ := hW
              clear hk0
              go_simp
              try (intro hx; exfalso; omega)
            try simp only [Act.put, List.setIfInBounds_toArray, List.set_cons_zero, List.set_cons_succ]
            refine wpAnyH_take (i := 42) (oi := { dst := some 59, op := Op.load 4 (Operand.tmp 58), type := 4, pos := "ref.go:93", after := #[{ on := 41, ground := Ground.data }, { on := 37, ground := Ground.guard }], guard := some (37, false) }) (v := .bool c) rfl (by kernel_rfl) (by kernel_rfl) (by kernel_rfl) (fun _ _ _ h => h) (Or.inl ⟨by rfl, ?_⟩) hk0 ?_
            · intro W hW
              obtain ⟨k0, k1, k2, k3, k4, k5, k6, k7, k8, k9, k10, k11⟩ := hW
              clear hk0
              go_simp
              try (intro hx; exfalso; omega)
            try simp only [Act.put, List.setIfInBounds_toArray, List.set_cons_zero, List.set_cons_succ]
            refine wpAnyH_take (i := 43) (oi := { dst := some 60, op := Op.move (Operand.tmp 1), type := 28, pos := "ref.go:93", after := #[{ on := 37, ground := Ground.guard }], guard := some (37, false) }) (v := .slice (some ⟨B', o', none⟩) N cap0') rfl (by kernel_rfl) (by kernel_rfl) (by kernel_rfl) (fun _ _ _ h => h) (Or.inl ⟨by rfl, ?_⟩) hk0 ?_
            · intro W hW
              obtain ⟨k0, k1, k2, k3, k4, k5, k6, k7, k8, k9, k10, k11⟩ := hW
              clear hk0
              go_simp
              try (intro hx; exfalso; omega)
            try simp only [Act.put, List.setIfInBounds_toArray, List.set_cons_zero, List.set_cons_succ]
            refine wpAnyH_take (i := 44) (oi := { dst := some 61, op := Op.move (Operand.tmp 5), type := 3, pos := "ref.go:93", after := #[{ on := 37, ground := Ground.guard }], guard := some (37, false) }) (v := .int .i64 (j : Int)) rfl (by kernel_rfl) (by kernel_rfl) (by kernel_rfl) (fun _ _ _ h => h) (Or.inl ⟨by rfl, ?_⟩) hk0 ?_
            · intro W hW
              obtain ⟨k0, k1, k2, k3, k4, k5, k6, k7, k8, k9, k10, k11⟩ := hW
              clear hk0
              go_simp
              try (intro hx; exfalso; omega)
            try simp only [Act.put, List.setIfInBounds_toArray, List.set_cons_zero, List.set_cons_succ]
            refine wpAnyH_take (i := 45) (oi := { dst := some 62, op := Op.indexAddr 28 (Operand.tmp 60) (Operand.tmp 61), type := 0, pos := "ref.go:93", after := #[{ on := 43, ground := Ground.data }, { on := 44, ground := Ground.data }, { on := 37, ground := Ground.guard }], guard := some (37, false) }) (v := .pointer (some ⟨B', o' + j * 6, none⟩)) rfl (by kernel_rfl) (by kernel_rfl) (by kernel_rfl) (fun _ _ _ h => h) (Or.inl ⟨by rfl, ?_⟩) hk0 ?_
            · intro W hW
              obtain ⟨k0, k1, k2, k3, k4, k5, k6, k7, k8, k9, k10, k11⟩ := hW
              clear hk0
              go_simp
              try (intro hx; exfalso; omega)
            try simp only [Act.put, List.setIfInBounds_toArray, List.set_cons_zero, List.set_cons_succ]
            refine wpAnyH_take (i := 46) (oi := { dst := some 63, op := Op.fieldAddr 66 (Operand.tmp 62) 3, type := 0, pos := "ref.go:93", after := #[{ on := 45, ground := Ground.data }, { on := 37, ground := Ground.guard }], guard := some (37, false) }) (v := .pointer (some ⟨B', o' + j * 6 + 3, none⟩)) rfl (by kernel_rfl) (by kernel_rfl) (by kernel_rfl) (fun _ _ _ h => h) (Or.inl ⟨by rfl, ?_⟩) hk0 ?_
            · intro W hW
              obtain ⟨k0, k1, k2, k3, k4, k5, k6, k7, k8, k9, k10, k11⟩ := hW
              clear hk0
              go_simp
              try (intro hx; exfalso; omega)
            try simp only [Act.put, List.setIfInBounds_toArray, List.set_cons_zero, List.set_cons_succ]
            refine wpAnyH_take (i := 47) (oi := { dst := some 64, op := Op.load 4 (Operand.tmp 63), type := 4, pos := "ref.go:93", after := #[{ on := 46, ground := Ground.data }, { on := 37, ground := Ground.guard }], guard := some (37, false) }) (v := .bool c) rfl (by kernel_rfl) (by kernel_rfl) (by kernel_rfl) (fun _ _ _ h => h) (Or.inl ⟨by rfl, ?_⟩) hk0 ?_
            · intro W hW
              obtain ⟨k0, k1, k2, k3, k4, k5, k6, k7, k8, k9, k10, k11⟩ := hW
              clear hk0
              go_simp
              try (intro hx; exfalso; omega)
            try simp only [Act.put, List.setIfInBounds_toArray, List.set_cons_zero, List.set_cons_succ]
            refine wpAnyH_take (i := 48) (oi := { dst := some 65, op := Op.binOp BinOp.neq 4 (Operand.tmp 59) (Operand.tmp 64) 4, type := 4, pos := "ref.go:93", after := #[{ on := 42, ground := Ground.data }, { on := 47, ground := Ground.data }, { on := 37, ground := Ground.guard }], guard := some (37, false) }) (v := .bool false) rfl (by kernel_rfl) (by kernel_rfl) (by kernel_rfl) (fun _ _ _ h => h) (Or.inl ⟨by rfl, ?_⟩) hk0 ?_
            · intro W hW
              obtain ⟨k0, k1, k2, k3, k4, k5, k6, k7, k8, k9, k10, k11⟩ := hW
              clear hk0
              go_simp
              try (intro hx; exfalso; omega)
            try simp only [Act.put, List.setIfInBounds_toArray, List.set_cons_zero, List.set_cons_succ]
            refine wpAnyH_take (i := 49) (oi := { dst := some 66, op := Op.pick (Operand.tmp 54) (Operand.const (Value.bool true)) (Operand.tmp 65), type := 4, pos := "ref.go:93", after := #[{ on := 37, ground := Ground.data }, { on := 48, ground := Ground.data }], guard := none }) (v := .bool false) rfl (by kernel_rfl) (by kernel_rfl) (by kernel_rfl) (fun _ _ _ h => h) (Or.inl ⟨by rfl, ?_⟩) hk0 ?_
            · intro W hW
              obtain ⟨k0, k1, k2, k3, k4, k5, k6, k7, k8, k9, k10, k11⟩ := hW
              clear hk0
              go_simp
              try (intro hx; exfalso; omega)
            try simp only [Act.put, List.setIfInBounds_toArray, List.set_cons_zero, List.set_cons_succ]
            refine wpAnyH_take (i := 50) (oi := { dst := some 67, op := Op.move (Operand.tmp 66), type := 4, pos := "ref.go:93", after := #[{ on := 49, ground := Ground.data }, { on := 37, ground := Ground.chain }], guard := none }) (v := .bool false) rfl (by kernel_rfl) (by kernel_rfl) (by kernel_rfl) (fun _ _ _ h => h) (Or.inl ⟨by rfl, ?_⟩) hk0 ?_
            · intro W hW
              obtain ⟨k0, k1, k2, k3, k4, k5, k6, k7, k8, k9, k10, k11⟩ := hW
              clear hk0
              go_simp
              try (intro hx; exfalso; omega)
            try simp only [Act.put, List.setIfInBounds_toArray, List.set_cons_zero, List.set_cons_succ]
            refine wpAnyH_take (i := 51) (oi := { dst := some 68, op := Op.move (Operand.tmp 0), type := 28, pos := "ref.go:93", after := #[{ on := 50, ground := Ground.guard }], guard := some (50, false) }) (v := .slice (some ⟨B, o, none⟩) N cap0) rfl (by kernel_rfl) (by kernel_rfl) (by kernel_rfl) (fun _ _ _ h => h) (Or.inl ⟨by rfl, ?_⟩) hk0 ?_
            · intro W hW
              obtain ⟨k0, k1, k2, k3, k4, k5, k6, k7, k8, k9, k10, k11⟩ := hW
              clear hk0
              go_simp
              try (intro hx; exfalso; omega)
            try simp only [Act.put, List.setIfInBounds_toArray, List.set_cons_zero, List.set_cons_succ]
            refine wpAnyH_take (i := 52) (oi := { dst := some 69, op := Op.move (Operand.tmp 5), type := 3, pos := "ref.go:93", after := #[{ on := 50, ground := Ground.guard }], guard := some (50, false) }) (v := .int .i64 (j : Int)) rfl (by kernel_rfl) (by kernel_rfl) (by kernel_rfl) (fun _ _ _ h => h) (Or.inl ⟨by rfl, ?_⟩) hk0 ?_
            · intro W hW
              obtain ⟨k0, k1, k2, k3, k4, k5, k6, k7, k8, k9, k10, k11⟩ := hW
              clear hk0
              go_simp
              try (intro hx; exfalso; omega)
            try simp only [Act.put, List.setIfInBounds_toArray, List.set_cons_zero, List.set_cons_succ]
            refine wpAnyH_take (i := 53) (oi := { dst := some 70, op := Op.indexAddr 28 (Operand.tmp 68) (Operand.tmp 69), type := 0, pos := "ref.go:93", after := #[{ on := 51, ground := Ground.data }, { on := 52, ground := Ground.data }, { on := 50, ground := Ground.guard }], guard := some (50, false) }) (v := .pointer (some ⟨B, o + j * 6, none⟩)) rfl (by kernel_rfl) (by kernel_rfl) (by kernel_rfl) (fun _ _ _ h => h) (Or.inl ⟨by rfl, ?_⟩) hk0 ?_
            · intro W hW
              obtain ⟨k0, k1, k2, k3, k4, k5, k6, k7, k8, k9, k10, k11⟩ := hW
              clear hk0
              go_simp
              try (intro hx; exfalso; omega)
            try simp only [Act.put, List.setIfInBounds_toArray, List.set_cons_zero, List.set_cons_succ]
            refine wpAnyH_take (i := 54) (oi := { dst := some 71, op := Op.fieldAddr 66 (Operand.tmp 70) 4, type := 0, pos := "ref.go:93", after := #[{ on := 53, ground := Ground.data }, { on := 50, ground := Ground.guard }], guard := some (50, false) }) (v := .pointer (some ⟨B, o + j * 6 + 4, none⟩)) rfl (by kernel_rfl) (by kernel_rfl) (by kernel_rfl) (fun _ _ _ h => h) (Or.inl ⟨by rfl, ?_⟩) hk0 ?_
            · intro W hW
              obtain ⟨k0, k1, k2, k3, k4, k5, k6, k7, k8, k9, k10, k11⟩ := hW
              clear hk0
              go_simp
              try (intro hx; exfalso; omega)
            try simp only [Act.put, List.setIfInBounds_toArray, List.set_cons_zero, List.set_cons_succ]
            refine wpAnyH_take (i := 55) (oi := { dst := some 72, op := Op.load 28 (Operand.tmp 71), type := 28, pos := "ref.go:93", after := #[{ on := 54, ground := Ground.data }, { on := 50, ground := Ground.guard }], guard := some (50, false) }) (v := .slice AK mK cK) rfl (by kernel_rfl) (by kernel_rfl) (by kernel_rfl) (fun _ _ _ h => h) (Or.inl ⟨by rfl, ?_⟩) hk0 ?_
            · intro W hW
              obtain ⟨k0, k1, k2, k3, k4, k5, k6, k7, k8, k9, k10, k11⟩ := hW
              clear hk0
              go_simp
              try (intro hx; exfalso; omega)
            try simp only [Act.put, List.setIfInBounds_toArray, List.set_cons_zero, List.set_cons_succ]
            refine wpAnyH_take (i := 56) (oi := { dst := some 73, op := Op.move (Operand.tmp 1), type := 28, pos := "ref.go:93", after := #[{ on := 50, ground := Ground.guard }], guard := some (50, false) }) (v := .slice (some ⟨B', o', none⟩) N cap0') rfl (by kernel_rfl) (by kernel_rfl) (by kernel_rfl) (fun _ _ _ h => h) (Or.inl ⟨by rfl, ?_⟩) hk0 ?_
            · intro W hW
              obtain ⟨k0, k1, k2, k3, k4, k5, k6, k7, k8, k9, k10, k11⟩ := hW
              clear hk0
              go_simp
              try (intro hx; exfalso; omega)
            try simp only [Act.put, List.setIfInBounds_toArray, List.set_cons_zero, List.set_cons_succ]
            refine wpAnyH_take (i := 57) (oi := { dst := some 74, op := Op.move (Operand.tmp 5), type := 3, pos := "ref.go:93", after := #[{ on := 50, ground := Ground.guard }], guard := some (50, false) }) (v := .int .i64 (j : Int)) rfl (by kernel_rfl) (by kernel_rfl) (by kernel_rfl) (fun _ _ _ h => h) (Or.inl ⟨by rfl, ?_⟩) hk0 ?_
            · intro W hW
              obtain ⟨k0, k1, k2, k3, k4, k5, k6, k7, k8, k9, k10, k11⟩ := hW
              clear hk0
              go_simp
              try (intro hx; exfalso; omega)
            try simp only [Act.put, List.setIfInBounds_toArray, List.set_cons_zero, List.set_cons_succ]
            refine wpAnyH_take (i := 58) (oi := { dst := some 75, op := Op.indexAddr 28 (Operand.tmp 73) (Operand.tmp 74), type := 0, pos := "ref.go:93", after := #[{ on := 56, ground := Ground.data }, { on := 57, ground := Ground.data }, { on := 50, ground := Ground.guard }], guard := some (50, false) }) (v := .pointer (some ⟨B', o' + j * 6, none⟩)) rfl (by kernel_rfl) (by kernel_rfl) (by kernel_rfl) (fun _ _ _ h => h) (Or.inl ⟨by rfl, ?_⟩) hk0 ?_
            · intro W hW
              obtain ⟨k0, k1, k2, k3, k4, k5, k6, k7, k8, k9, k10, k11⟩ := hW
              clear hk0
              go_simp
              try (intro hx; exfalso; omega)
            try simp only [Act.put, List.setIfInBounds_toArray, List.set_cons_zero, List.set_cons_succ]
            refine wpAnyH_take (i := 59) (oi := { dst := some 76, op := Op.fieldAddr 66 (Operand.tmp 75) 4, type := 0, pos := "ref.go:93", after := #[{ on := 58, ground := Ground.data }, { on := 50, ground := Ground.guard }], guard := some (50, false) }) (v := .pointer (some ⟨B', o' + j * 6 + 4, none⟩)) rfl (by kernel_rfl) (by kernel_rfl) (by kernel_rfl) (fun _ _ _ h => h) (Or.inl ⟨by rfl, ?_⟩) hk0 ?_
            · intro W hW
              obtain ⟨k0, k1, k2, k3, k4, k5, k6, k7, k8, k9, k10, k11⟩ := hW
              clear hk0
              go_simp
              try (intro hx; exfalso; omega)
            try simp only [Act.put, List.setIfInBounds_toArray, List.set_cons_zero, List.set_cons_succ]
            refine wpAnyH_take (i := 60) (oi := { dst := some 77, op := Op.load 28 (Operand.tmp 76), type := 28, pos := "ref.go:93", after := #[{ on := 59, ground := Ground.data }, { on := 50, ground := Ground.guard }], guard := some (50, false) }) (v := .slice AK' mK' cK') rfl (by kernel_rfl) (by kernel_rfl) (by kernel_rfl) (fun _ _ _ h => h) (Or.inl ⟨by rfl, ?_⟩) hk0 ?_
            · intro W hW
              obtain ⟨k0, k1, k2, k3, k4, k5, k6, k7, k8, k9, k10, k11⟩ := hW
              clear hk0
              go_simp
              try (intro hx; exfalso; omega)
            try simp only [Act.put, List.setIfInBounds_toArray, List.set_cons_zero, List.set_cons_succ]
            refine wpAnyH_ready (rs := [61]) (by kernel_rfl) (by simp) ?_
            refine AllReadyH.cons (o := { dst := some 78, op := Op.call { callee := Callee.value (Operand.func 19), args := #[Operand.tmp 72, Operand.tmp 77], argTypes := #[28, 28] }, type := 4, pos := "ref.go:93", after := #[{ on := 55, ground := Ground.data }, { on := 60, ground := Ground.data }, { on := 50, ground := Ground.chain }, { on := 50, ground := Ground.guard }], guard := some (50, false) }) rfl (fun K hK => ?_) AllReadyH.nil
            go_simp
            (go_at_call 19; refine (hcK.out _ hb0).mono ?_; rintro e w5 ⟨rfl, hc⟩; have hb1 := hb0.trans (hc.mono hb0.size); have hk1 := hS.out w5 hb1; clear hc hk0)
            go_wp2_with fail
            refine hK.out _ _ hk1 (fun _ => ?_)
            clear hK K
            try simp only [Act.put, List.setIfInBounds_toArray, List.set_cons_zero, List.set_cons_succ]
            refine wpAnyH_take (i := 62) (oi := { dst := some 79, op := Op.unOp UnOp.not 4 (Operand.tmp 78), type := 4, pos := "ref.go:93", after := #[{ on := 61, ground := Ground.data }, { on := 50, ground := Ground.guard }], guard := some (50, false) }) (v := .bool false) rfl (by kernel_rfl) (by kernel_rfl) (by kernel_rfl) (fun _ _ _ h => h) (Or.inl ⟨by rfl, ?_⟩) hk1 ?_
            · intro W hW
              obtain ⟨k0, k1, k2, k3, k4, k5, k6, k7, k8, k9, k10, k11⟩ := hW
              clear hk1
              go_simp
              try (intro hx; exfalso; omega)
            try simp only [Act.put, List.setIfInBounds_toArray, List.set_cons_zero, List.set_cons_succ]
            refine wpAnyH_take (i := 63) (oi := { dst := some 80, op := Op.pick (Operand.tmp 67) (Operand.const (Value.bool true)) (Operand.tmp 79), type := 4, pos := "ref.go:93", after := #[{ on := 50, ground := Ground.data }, { on := 62, ground := Ground.data }], guard := none }) (v := .bool false) rfl (by kernel_rfl) (by kernel_rfl) (by kernel_rfl) (fun _ _ _ h => h) (Or.inl ⟨by rfl, ?_⟩) hk1 ?_
            · intro W hW
              obtain ⟨k0, k1, k2, k3, k4, k5, k6, k7, k8, k9, k10, k11⟩ := hW
              clear hk1
              go_simp
              try (intro hx; exfalso; omega)
            try simp only [Act.put, List.setIfInBounds_toArray, List.set_cons_zero, List.set_cons_succ]
            refine wpAnyH_take (i := 64) (oi := { dst := some 81, op := Op.move (Operand.tmp 80), type := 4, pos := "ref.go:93", after := #[{ on := 63, ground := Ground.data }, { on := 61, ground := Ground.chain }], guard := none }) (v := .bool false) rfl (by kernel_rfl) (by kernel_rfl) (by kernel_rfl) (fun _ _ _ h => h) (Or.inl ⟨by rfl, ?_⟩) hk1 ?_
            · intro W hW
              obtain ⟨k0, k1, k2, k3, k4, k5, k6, k7, k8, k9, k10, k11⟩ := hW
              clear hk1
              go_simp
              try (intro hx; exfalso; omega)
            try simp only [Act.put, List.setIfInBounds_toArray, List.set_cons_zero, List.set_cons_succ]
            refine wpAnyH_take (i := 65) (oi := { dst := some 82, op := Op.move (Operand.tmp 0), type := 28, pos := "ref.go:93", after := #[{ on := 64, ground := Ground.guard }], guard := some (64, false) }) (v := .slice (some ⟨B, o, none⟩) N cap0) rfl (by kernel_rfl) (by kernel_rfl) (by kernel_rfl) (fun _ _ _ h => h) (Or.inl ⟨by rfl, ?_⟩) hk1 ?_
            · intro W hW
              obtain ⟨k0, k1, k2, k3, k4, k5, k6, k7, k8, k9, k10, k11⟩ := hW
              clear hk1
              go_simp
              try (intro hx; exfalso; omega)
            try simp only [Act.put, List.setIfInBounds_toArray, List.set_cons_zero, List.set_cons_succ]
            refine wpAnyH_take (i := 66) (oi := { dst := some 83, op := Op.move (Operand.tmp 5), type := 3, pos := "ref.go:93", after := #[{ on := 64, ground := Ground.guard }], guard := some (64, false) }) (v := .int .i64 (j : Int)) rfl (by kernel_rfl) (by kernel_rfl) (by kernel_rfl) (fun _ _ _ h => h) (Or.inl ⟨by rfl, ?_⟩) hk1 ?_
            · intro W hW
              obtain ⟨k0, k1, k2, k3, k4, k5, k6, k7, k8, k9, k10, k11⟩ := hW
              clear hk1
              go_simp
              try (intro hx; exfalso; omega)
            try simp only [Act.put, List.setIfInBounds_toArray, List.set_cons_zero, List.set_cons_succ]
            refine wpAnyH_take (i := 67) (oi := { dst := some 84, op := Op.indexAddr 28 (Operand.tmp 82) (Operand.tmp 83), type := 0, pos := "ref.go:93", after := #[{ on := 65, ground := Ground.data }, { on := 66, ground := Ground.data }, { on := 64, ground := Ground.guard }], guard := some (64, false) }) (v := .pointer (some ⟨B, o + j * 6, none⟩)) rfl (by kernel_rfl) (by kernel_rfl) (by kernel_rfl) (fun _ _ _ h => h) (Or.inl ⟨by rfl, ?_⟩) hk1 ?_
            · intro W hW
              obtain ⟨k0, k1, k2, k3, k4, k5, k6, k7, k8, k9, k10, k11⟩ := hW
              clear hk1
              go_simp
              try (intro hx; exfalso; omega)
            try simp only [Act.put, List.setIfInBounds_toArray, List.set_cons_zero, List.set_cons_succ]
            refine wpAnyH_take (i := 68) (oi := { dst := some 85, op := Op.fieldAddr 66 (Operand.tmp 84) 5, type := 0, pos := "ref.go:93", after := #[{ on := 67, ground := Ground.data }, { on := 64, ground := Ground.guard }], guard := some (64, false) }) (v := .pointer (some ⟨B, o + j * 6 + 5, none⟩)) rfl (by kernel_rfl) (by kernel_rfl) (by kernel_rfl) (fun _ _ _ h => h) (Or.inl ⟨by rfl, ?_⟩) hk1 ?_
            · intro W hW
              obtain ⟨k0, k1, k2, k3, k4, k5, k6, k7, k8, k9, k10, k11⟩ := hW
              clear hk1
              go_simp
              try (intro hx; exfalso; omega)
            try simp only [Act.put, List.setIfInBounds_toArray, List.set_cons_zero, List.set_cons_succ]
            refine wpAnyH_take (i := 69) (oi := { dst := some 86, op := Op.load 22 (Operand.tmp 85), type := 22, pos := "ref.go:93", after := #[{ on := 68, ground := Ground.data }, { on := 64, ground := Ground.guard }], guard := some (64, false) }) (v := .slice AY mY cY) rfl (by kernel_rfl) (by kernel_rfl) (by kernel_rfl) (fun _ _ _ h => h) (Or.inl ⟨by rfl, ?_⟩) hk1 ?_
            · intro W hW
              obtain ⟨k0, k1, k2, k3, k4, k5, k6, k7, k8, k9, k10, k11⟩ := hW
              clear hk1
              go_simp
              try (intro hx; exfalso; omega)
            try simp only [Act.put, List.setIfInBounds_toArray, List.set_cons_zero, List.set_cons_succ]
            refine wpAnyH_take (i := 70) (oi := { dst := some 87, op := Op.move (Operand.tmp 1), type := 28, pos := "ref.go:93", after := #[{ on := 64, ground := Ground.guard }], guard := some (64, false) }) (v := .slice (some ⟨B', o', none⟩) N cap0') rfl (by kernel_rfl) (by kernel_rfl) (by kernel_rfl) (fun _ _ _ h => h) (Or.inl ⟨by rfl, ?_⟩) hk1 ?_
            · intro W hW
              obtain ⟨k0, k1, k2, k3, k4, k5, k6, k7, k8, k9, k10, k11⟩ := hW
              clear hk1
              go_simp
              try (intro hx; exfalso; omega)
            try simp only [Act.put, List.setIfInBounds_toArray, List.set_cons_zero, List.set_cons_succ]
            refine wpAnyH_take (i := 71) (oi := { dst := some 88, op := Op.move (Operand.tmp 5), type := 3, pos := "ref.go:93", after := #[{ on := 64, ground := Ground.guard }], guard := some (64, false) }) (v := .int .i64 (j : Int)) rfl (by kernel_rfl) (by kernel_rfl) (by kernel_rfl) (fun _ _ _ h => h) (Or.inl ⟨by rfl, ?_⟩) hk1 ?_
            · intro W hW
              obtain ⟨k0, k1, k2, k3, k4, k5, k6, k7, k8, k9, k10, k11⟩ := hW
              clear hk1
              go_simp
              try (intro hx; exfalso; omega)
            try simp only [Act.put, List.setIfInBounds_toArray, List.set_cons_zero, List.set_cons_succ]
            refine wpAnyH_take (i := 72) (oi := { dst := some 89, op := Op.indexAddr 28 (Operand.tmp 87) (Operand.tmp 88), type := 0, pos := "ref.go:93", after := #[{ on := 70, ground := Ground.data }, { on := 71, ground := Ground.data }, { on := 64, ground := Ground.guard }], guard := some (64, false) }) (v := .pointer (some ⟨B', o' + j * 6, none⟩)) rfl (by kernel_rfl) (by kernel_rfl) (by kernel_rfl) (fun _ _ _ h => h) (Or.inl ⟨by rfl, ?_⟩) hk1 ?_
            · intro W hW
              obtain ⟨k0, k1, k2, k3, k4, k5, k6, k7, k8, k9, k10, k11⟩ := hW
              clear hk1
              go_simp
              try (intro hx; exfalso; omega)
            try simp only [Act.put, List.setIfInBounds_toArray, List.set_cons_zero, List.set_cons_succ]
            refine wpAnyH_take (i := 73) (oi := { dst := some 90, op := Op.fieldAddr 66 (Operand.tmp 89) 5, type := 0, pos := "ref.go:93", after := #[{ on := 72, ground := Ground.data }, { on := 64, ground := Ground.guard }], guard := some (64, false) }) (v := .pointer (some ⟨B', o' + j * 6 + 5, none⟩)) rfl (by kernel_rfl) (by kernel_rfl) (by kernel_rfl) (fun _ _ _ h => h) (Or.inl ⟨by rfl, ?_⟩) hk1 ?_
            · intro W hW
              obtain ⟨k0, k1, k2, k3, k4, k5, k6, k7, k8, k9, k10, k11⟩ := hW
              clear hk1
              go_simp
              try (intro hx; exfalso; omega)
            try simp only [Act.put, List.setIfInBounds_toArray, List.set_cons_zero, List.set_cons_succ]
            refine wpAnyH_take (i := 74) (oi := { dst := some 91, op := Op.load 22 (Operand.tmp 90), type := 22, pos := "ref.go:93", after := #[{ on := 73, ground := Ground.data }, { on := 64, ground := Ground.guard }], guard := some (64, false) }) (v := .slice AY' mY' cY') rfl (by kernel_rfl) (by kernel_rfl) (by kernel_rfl) (fun _ _ _ h => h) (Or.inl ⟨by rfl, ?_⟩) hk1 ?_
            · intro W hW
              obtain ⟨k0, k1, k2, k3, k4, k5, k6, k7, k8, k9, k10, k11⟩ := hW
              clear hk1
              go_simp
              try (intro hx; exfalso; omega)
            try simp only [Act.put, List.setIfInBounds_toArray, List.set_cons_zero, List.set_cons_succ]
            refine wpAnyH_ready (rs := [75]) (by kernel_rfl) (by simp) ?_
            refine AllReadyH.cons (o := { dst := some 92, op := Op.call { callee := Callee.value (Operand.func 17), args := #[Operand.tmp 86, Operand.tmp 91], argTypes := #[22, 22] }, type := 4, pos := "ref.go:93", after := #[{ on := 69, ground := Ground.data }, { on := 74, ground := Ground.data }, { on := 64, ground := Ground.chain }, { on := 64, ground := Ground.guard }], guard := some (64, false) }) rfl (fun K hK => ?_) AllReadyH.nil
            go_simp
            (go_at_call 17; refine (hcY.out _ hb1).mono ?_; rintro e w6 ⟨rfl, hc⟩; have hb2 := hb1.trans (hc.mono hb1.size); have hk2 := hS.out w6 hb2; clear hc hk1)
            go_wp2_with fail
            refine hK.out _ _ hk2 (fun _ => ?_)
            clear hK K
            try simp only [Act.put, List.setIfInBounds_toArray, List.set_cons_zero, List.set_cons_succ]
            refine wpAnyH_take (i := 76) (oi := { dst := some 93, op := Op.unOp UnOp.not 4 (Operand.tmp 92), type := 4, pos := "ref.go:93", after := #[{ on := 75, ground := Ground.data }, { on := 64, ground := Ground.guard }], guard := some (64, false) }) (v := .bool true) rfl (by kernel_rfl) (by kernel_rfl) (by kernel_rfl) (fun _ _ _ h => h) (Or.inl ⟨by rfl, ?_⟩) hk2 ?_
            · intro W hW
              obtain ⟨k0, k1, k2, k3, k4, k5, k6, k7, k8, k9, k10, k11⟩ := hW
              clear hk2
              go_simp
              try (intro hx; exfalso; omega)
            try simp only [Act.put, List.setIfInBounds_toArray, List.set_cons_zero, List.set_cons_succ]
            refine wpAnyH_take (i := 77) (oi := { dst := some 94, op := Op.pick (Operand.tmp 81) (Operand.const (Value.bool true)) (Operand.tmp 93), type := 4, pos := "ref.go:93", after := #[{ on := 64, ground := Ground.data }, { on := 76, ground := Ground.data }], guard := none }) (v := .bool true) rfl (by kernel_rfl) (by kernel_rfl) (by kernel_rfl) (fun _ _ _ h => h) (Or.inl ⟨by rfl, ?_⟩) hk2 ?_
            · intro W hW
              obtain ⟨k0, k1, k2, k3, k4, k5, k6, k7, k8, k9, k10, k11⟩ := hW
              clear hk2
              go_simp
              try (intro hx; exfalso; omega)
            try simp only [Act.put, List.setIfInBounds_toArray, List.set_cons_zero, List.set_cons_succ]
            refine wpAnyH_done (by kernel_rfl) ?_ _
            have hBE := Lib.hid (hB.out.trans (hb2.mono hB.out.size))
            have hWR := Lib.hid hb2
            clear hb0 hb1 hb2 hk2 hS hend hcK hcY
            subst hsE
            go_wp2
            go_ret
            exact ⟨rfl, hBE.out⟩
          | true =>
            have hsE : Hid (X = sameF (f.drop (j + 1)) (f'.drop (j + 1))) := Lib.hid (by rw [hgo.out]; simp)
            clear hgo
            refine wp_region_held_drew (S := fun W => W.cell? ⟨B, o + j * 6, none⟩ = some (.int .i64 k) ∧ W.cell? ⟨B, o + j * 6 + 1, none⟩ = some (.string t) ∧ W.cell? ⟨B, o + j * 6 + 2, none⟩ = some (.int .i64 p) ∧ W.cell? ⟨B, o + j * 6 + 3, none⟩ = some (.bool c) ∧ W.cell? ⟨B, o + j * 6 + 4, none⟩ = some (.slice AK mK cK) ∧ W.cell? ⟨B, o + j * 6 + 5, none⟩ = some (.slice AY mY cY) ∧ W.cell? ⟨B', o' + j * 6, none⟩ = some (.int .i64 k) ∧ W.cell? ⟨B', o' + j * 6 + 1, none⟩ = some (.string t) ∧ W.cell? ⟨B', o' + j * 6 + 2, none⟩ = some (.int .i64 p) ∧ W.cell? ⟨B', o' + j * 6 + 3, none⟩ = some (.bool c) ∧ W.cell? ⟨B', o' + j * 6 + 4, none⟩ = some (.slice AK' mK' cK') ∧ W.cell? ⟨B', o' + j * 6 + 5, none⟩ = some (.slice AY' mY' cY')) (by kernel_rfl) hk0 (fun _ => ?_)
            refine wpAnyH_take (i := 0) (oi := { dst := some 17, op := Op.move (Operand.tmp 0), type := 28, pos := "ref.go:93", after := #[], guard := none }) (v := .slice (some ⟨B, o, none⟩) N cap0) rfl (by kernel_rfl) (by kernel_rfl) (by kernel_rfl) (fun _ _ _ h => h) (Or.inl ⟨by rfl, ?_⟩) hk0 ?_
            · intro W hW
              obtain ⟨k0, k1, k2, k3, k4, k5, k6, k7, k8, k9, k10, k11⟩ := hW
              clear hk0
              go_simp
              try (intro hx; exfalso; omega)
            try simp only [Act.put, List.setIfInBounds_toArray, List.set_cons_zero, List.set_cons_succ]
            refine wpAnyH_take (i := 1) (oi := { dst := some 18, op := Op.move (Operand.tmp 5), type := 3, pos := "ref.go:93", after := #[], guard := none }) (v := .int .i64 (j : Int)) rfl (by kernel_rfl) (by kernel_rfl) (by kernel_rfl) (fun _ _ _ h => h) (Or.inl ⟨by rfl, ?_⟩) hk0 ?_
            · intro W hW
              obtain ⟨k0, k1, k2, k3, k4, k5, k6, k7, k8, k9, k10, k11⟩ := hW
              clear hk0
              go_simp
              try (intro hx; exfalso; omega)
            try simp only [Act.put, List.setIfInBounds_toArray, List.set_cons_zero, List.set_cons_succ]
            refine wpAnyH_take (i := 2) (oi := { dst := some 19, op := Op.indexAddr 28 (Operand.tmp 17) (Operand.tmp 18), type := 0, pos := "ref.go:93", after := #[{ on := 0, ground := Ground.data }, { on := 1, ground := Ground.data }], guard := none }) (v := .pointer (some ⟨B, o + j * 6, none⟩)) rfl (by kernel_rfl) (by kernel_rfl) (by kernel_rfl) (fun _ _ _ h => h) (Or.inl ⟨by rfl, ?_⟩) hk0 ?_
            · intro W hW
              obtain ⟨k0, k1, k2, k3, k4, k5, k6, k7, k8, k9, k10, k11⟩ := hW
              clear hk0
              go_simp
              try (intro hx; exfalso; omega)
            try simp only [Act.put, List.setIfInBounds_toArray, List.set_cons_zero, List.set_cons_succ]
            refine wpAnyH_take (i := 3) (oi := { dst := some 20, op := Op.fieldAddr 66 (Operand.tmp 19) 0, type := 0, pos := "ref.go:93", after := #[{ on := 2, ground := Ground.data }], guard := none }) (v := .pointer (some ⟨B, o + j * 6, none⟩)) rfl (by kernel_rfl) (by kernel_rfl) (by kernel_rfl) (fun _ _ _ h => h) (Or.inl ⟨by rfl, ?_⟩) hk0 ?_
            · intro W hW
              obtain ⟨k0, k1, k2, k3, k4, k5, k6, k7, k8, k9, k10, k11⟩ := hW
              clear hk0
              go_simp
              try (intro hx; exfalso; omega)
            try simp only [Act.put, List.setIfInBounds_toArray, List.set_cons_zero, List.set_cons_succ]
            refine wpAnyH_take (i := 4) (oi := { dst := some 21, op := Op.load 3 (Operand.tmp 20), type := 3, pos := "ref.go:93", after := #[{ on := 3, ground := Ground.data }], guard := none }) (v := .int .i64 k) rfl (by kernel_rfl) (by kernel_rfl) (by kernel_rfl) (fun _ _ _ h => h) (Or.inl ⟨by rfl, ?_⟩) hk0 ?_
            · intro W hW
              obtain ⟨k0, k1, k2, k3, k4, k5, k6, k7, k8, k9, k10, k11⟩ := hW
              clear hk0
              go_simp
              try (intro hx; exfalso; omega)
            try simp only [Act.put, List.setIfInBounds_toArray, List.set_cons_zero, List.set_cons_succ]
            refine wpAnyH_take (i := 5) (oi := { dst := some 22, op := Op.move (Operand.tmp 1), type := 28, pos := "ref.go:93", after := #[], guard := none }) (v := .slice (some ⟨B', o', none⟩) N cap0') rfl (by kernel_rfl) (by kernel_rfl) (by kernel_rfl) (fun _ _ _ h => h) (Or.inl ⟨by rfl, ?_⟩) hk0 ?_
            · intro W hW
              obtain ⟨k0, k1, k2, k3, k4, k5, k6, k7, k8, k9, k10, k11⟩ := hW
              clear hk0
              go_simp
              try (intro hx; exfalso; omega)
            try simp only [Act.put, List.setIfInBounds_toArray, List.set_cons_zero, List.set_cons_succ]
            refine wpAnyH_take (i := 6) (oi := { dst := some 23, op := Op.move (Operand.tmp 5), type := 3, pos := "ref.go:93", after := #[], guard := none }) (v := .int .i64 (j : Int)) rfl (by kernel_rfl) (by kernel_rfl) (by kernel_rfl) (fun _ _ _ h => h) (Or.inl ⟨by rfl, ?_⟩) hk0 ?_
            · intro W hW
              obtain ⟨k0, k1, k2, k3, k4, k5, k6, k7, k8, k9, k10, k11⟩ := hW
              clear hk0
              go_simp
              try (intro hx; exfalso; omega)
            try simp only [Act.put, List.setIfInBounds_toArray, List.set_cons_zero, List.set_cons_succ]
            refine wpAnyH_take (i := 7) (oi := { dst := some 24, op := Op.indexAddr 28 (Operand.tmp 22) (Operand.tmp 23), type := 0, pos := "ref.go:93", after := #[{ on := 5, ground := Ground.data }, { on := 6, ground := Ground.data }], guard := none }) (v := .pointer (some ⟨B', o' + j * 6, none⟩)) rfl (by kernel_rfl) (by kernel_rfl) (by kernel_rfl) (fun _ _ _ h => h) (Or.inl ⟨by rfl, ?_⟩) hk0 ?_
            · intro W hW
              obtain ⟨k0, k1, k2, k3, k4, k5, k6, k7, k8, k9, k10, k11⟩ := hW
              clear hk0
              go_simp
              try (intro hx; exfalso; omega)
            try simp only [Act.put, List.setIfInBounds_toArray, List.set_cons_zero, List.set_cons_succ]
            refine wpAnyH_take (i := 8) (oi := { dst := some 25, op := Op.fieldAddr 66 (Operand.tmp 24) 0, type := 0, pos := "ref.go:93", after := #[{ on := 7, ground := Ground.data }], guard := none }) (v := .pointer (some ⟨B', o' + j * 6, none⟩)) rfl (by kernel_rfl) (by kernel_rfl) (by kernel_rfl) (fun _ _ _ h => h) (Or.inl ⟨by rfl, ?_⟩) hk0 ?_
            · intro W hW
              obtain ⟨k0, k1, k2, k3, k4, k5, k6, k7, k8, k9, k10, k11⟩ := hW
              clear hk0
              go_simp
              try (intro hx; exfalso; omega)
            try simp only [Act.put, List.setIfInBounds_toArray, List.set_cons_zero, List.set_cons_succ]
            refine wpAnyH_take (i := 9) (oi := { dst := some 26, op := Op.load 3 (Operand.tmp 25), type := 3, pos := "ref.go:93", after := #[{ on := 8, ground := Ground.data }], guard := none }) (v := .int .i64 k) rfl (by kernel_rfl) (by kernel_rfl) (by kernel_rfl) (fun _ _ _ h => h) (Or.inl ⟨by rfl, ?_⟩) hk0 ?_
            · intro W hW
              obtain ⟨k0, k1, k2, k3, k4, k5, k6, k7, k8, k9, k10, k11⟩ := hW
              clear hk0
              go_simp
              try (intro hx; exfalso; omega)
            try simp only [Act.put, List.setIfInBounds_toArray, List.set_cons_zero, List.set_cons_succ]
            refine wpAnyH_take (i := 10) (oi := { dst := some 27, op := Op.binOp BinOp.neq 3 (Operand.tmp 21) (Operand.tmp 26) 3, type := 4, pos := "ref.go:93", after := #[{ on := 4, ground := Ground.data }, { on := 9, ground := Ground.data }], guard := none }) (v := .bool false) rfl (by kernel_rfl) (by kernel_rfl) (by kernel_rfl) (fun _ _ _ h => h) (Or.inl ⟨by rfl, ?_⟩) hk0 ?_
            · intro W hW
              obtain ⟨k0, k1, k2, k3, k4, k5, k6, k7, k8, k9, k10, k11⟩ := hW
              clear hk0
              go_simp
              try (intro hx; exfalso; omega)
            try simp only [Act.put, List.setIfInBounds_toArray, List.set_cons_zero, List.set_cons_succ]
            refine wpAnyH_take (i := 11) (oi := { dst := some 28, op := Op.move (Operand.tmp 27), type := 4, pos := "ref.go:93", after := #[{ on := 10, ground := Ground.data }], guard := none }) (v := .bool false) rfl (by kernel_rfl) (by kernel_rfl) (by kernel_rfl) (fun _ _ _ h => h) (Or.inl ⟨by rfl, ?_⟩) hk0 ?_
            · intro W hW
              obtain ⟨k0, k1, k2, k3, k4, k5, k6, k7, k8, k9, k10, k11⟩ := hW
              clear hk0
              go_simp
              try (intro hx; exfalso; omega)
            try simp only [Act.put, List.setIfInBounds_toArray, List.set_cons_zero, List.set_cons_succ]
            refine wpAnyH_take (i := 12) (oi := { dst := some 29, op := Op.move (Operand.tmp 0), type := 28, pos := "ref.go:93", after := #[{ on := 11, ground := Ground.guard }], guard := some (11, false) }) (v := .slice (some ⟨B, o, none⟩) N cap0) rfl (by kernel_rfl) (by kernel_rfl) (by kernel_rfl) (fun _ _ _ h => h) (Or.inl ⟨by rfl, ?_⟩) hk0 ?_
            · intro W hW
              obtain ⟨k0, k1, k2, k3, k4, k5, k6, k7, k8, k9, k10, k11⟩ := hW
              clear hk0
              go_simp
              try (intro hx; exfalso; omega)
            try simp only [Act.put, List.setIfInBounds_toArray, List.set_cons_zero, List.set_cons_succ]
            refine wpAnyH_take (i := 13) (oi := { dst := some 30, op := Op.move (Operand.tmp 5), type := 3, pos := "ref.go:93", after := #[{ on := 11, ground := Ground.guard }], guard := some (11, false) }) (v := .int .i64 (j : Int)) rfl (by kernel_rfl) (by kernel_rfl) (by kernel_rfl) (fun _ _ _ h => h) (Or.inl ⟨by rfl, ?_⟩) hk0 ?_
            · intro W hW
              obtain ⟨k0, k1, k2, k3, k4, k5, k6, k7, k8, k9, k10, k11⟩ := hW
              clear hk0
              go_simp
              try (intro hx; exfalso; omega)
            try simp only [Act.put, List.setIfInBounds_toArray, List.set_cons_zero, List.set_cons_succ]
            refine wpAnyH_take (i := 14) (oi := { dst := some 31, op := Op.indexAddr 28 (Operand.tmp 29) (Operand.tmp 30), type := 0, pos := "ref.go:93", after := #[{ on := 12, ground := Ground.data }, { on := 13, ground := Ground.data }, { on := 11, ground := Ground.guard }], guard := some (11, false) }) (v := .pointer (some ⟨B, o + j * 6, none⟩)) rfl (by kernel_rfl) (by kernel_rfl) (by kernel_rfl) (fun _ _ _ h => h) (Or.inl ⟨by rfl, ?_⟩) hk0 ?_
            · intro W hW
              obtain ⟨k0, k1, k2, k3, k4, k5, k6, k7, k8, k9, k10, k11⟩ := hW
              clear hk0
              go_simp
              try (intro hx; exfalso; omega)
            try simp only [Act.put, List.setIfInBounds_toArray, List.set_cons_zero, List.set_cons_succ]
            refine wpAnyH_take (i := 15) (oi := { dst := some 32, op := Op.fieldAddr 66 (Operand.tmp 31) 1, type := 0, pos := "ref.go:93", after := #[{ on := 14, ground := Ground.data }, { on := 11, ground := Ground.guard }], guard := some (11, false) }) (v := .pointer (some ⟨B, o + j * 6 + 1, none⟩)) rfl (by kernel_rfl) (by kernel_rfl) (by kernel_rfl) (fun _ _ _ h => h) (Or.inl ⟨by rfl, ?_⟩) hk0 ?_
            · intro W hW
              obtain ⟨k0, k1, k2, k3, k4, k5, k6, k7, k8, k9, k10, k11⟩ := hW
              clear hk0
              go_simp
              try (intro hx; exfalso; omega)
            try simp only [Act.put, List.setIfInBounds_toArray, List.set_cons_zero, List.set_cons_succ]
            refine wpAnyH_take (i := 16) (oi := { dst := some 33, op := Op.load 9 (Operand.tmp 32), type := 9, pos := "ref.go:93", after := #[{ on := 15, ground := Ground.data }, { on := 11, ground := Ground.guard }], guard := some (11, false) }) (v := .string t) rfl (by kernel_rfl) (by kernel_rfl) (by kernel_rfl) (fun _ _ _ h => h) (Or.inl ⟨by rfl, ?_⟩) hk0 ?_
            · intro W hW
              obtain ⟨k0, k1, k2, k3, k4, k5, k6, k7, k8, k9, k10, k11⟩ := hW
              clear hk0
              go_simp
              try (intro hx; exfalso; omega)
            try simp only [Act.put, List.setIfInBounds_toArray, List.set_cons_zero, List.set_cons_succ]
            refine wpAnyH_take (i := 17) (oi := { dst := some 34, op := Op.move (Operand.tmp 1), type := 28, pos := "ref.go:93", after := #[{ on := 11, ground := Ground.guard }], guard := some (11, false) }) (v := .slice (some ⟨B', o', none⟩) N cap0') rfl (by kernel_rfl) (by kernel_rfl) (by kernel_rfl) (fun _ _ _ h => h) (Or.inl ⟨by rfl, ?_⟩) hk0 ?_
            · intro W hW
              obtain ⟨k0, k1, k2, k3, k4, k5, k6, k7, k8, k9, k10, k11⟩ := hW
              clear hk0
              go_simp
              try (intro hx; exfalso; omega)
            try simp only [Act.put, List.setIfInBounds_toArray, List.set_cons_zero, List.set_cons_succ]
            refine wpAnyH_take (i := 18) (oi := { dst := some 35, op := Op.move (Operand.tmp 5), type := 3, pos := "ref.go:93", after := #[{ on := 11, ground := Ground.guard }], guard := some (11, false) }) (v := .int .i64 (j : Int)) rfl (by kernel_rfl) (by kernel_rfl) (by kernel_rfl) (fun _ _ _ h => h) (Or.inl ⟨by rfl, ?_⟩) hk0 ?_
            · intro W hW
              obtain ⟨k0, k1, k2, k3, k4, k5, k6, k7, k8, k9, k10, k11⟩ := hW
              clear hk0
              go_simp
              try (intro hx; exfalso; omega)
            try simp only [Act.put, List.setIfInBounds_toArray, List.set_cons_zero, List.set_cons_succ]
            refine wpAnyH_take (i := 19) (oi := { dst := some 36, op := Op.indexAddr 28 (Operand.tmp 34) (Operand.tmp 35), type := 0, pos := "ref.go:93", after := #[{ on := 17, ground := Ground.data }, { on := 18, ground := Ground.data }, { on := 11, ground := Ground.guard }], guard := some (11, false) }) (v := .pointer (some ⟨B', o' + j * 6, none⟩)) rfl (by kernel_rfl) (by kernel_rfl) (by kernel_rfl) (fun _ _ _ h => h) (Or.inl ⟨by rfl, ?_⟩) hk0 ?_
            · intro W hW
              obtain ⟨k0, k1, k2, k3, k4, k5, k6, k7, k8, k9, k10, k11⟩ := hW
              clear hk0
              go_simp
              try (intro hx; exfalso; omega)
            try simp only [Act.put, List.setIfInBounds_toArray, List.set_cons_zero, List.set_cons_succ]
            refine wpAnyH_take (i := 20) (oi := { dst := some 37, op := Op.fieldAddr 66 (Operand.tmp 36) 1, type := 0, pos := "ref.go:93", after := #[{ on := 19, ground := Ground.data }, { on := 11, ground := Ground.guard }], guard := some (11, false) }) (v := .pointer (some ⟨B', o' + j * 6 + 1, none⟩)) rfl (by kernel_rfl) (by kernel_rfl) (by kernel_rfl) (fun _ _ _ h => h) (Or.inl ⟨by rfl, ?_⟩) hk0 ?_
            · intro W hW
              obtain ⟨k0, k1, k2, k3, k4, k5, k6, k7, k8, k9, k10, k11⟩ := hW
              clear hk0
              go_simp
              try (intro hx; exfalso; omega)
            try simp only [Act.put, List.setIfInBounds_toArray, List.set_cons_zero, List.set_cons_succ]
            refine wpAnyH_take (i := 21) (oi := { dst := some 38, op := Op.load 9 (Operand.tmp 37), type := 9, pos := "ref.go:93", after := #[{ on := 20, ground := Ground.data }, { on := 11, ground := Ground.guard }], guard := some (11, false) }) (v := .string t) rfl (by kernel_rfl) (by kernel_rfl) (by kernel_rfl) (fun _ _ _ h => h) (Or.inl ⟨by rfl, ?_⟩) hk0 ?_
            · intro W hW
              obtain ⟨k0, k1, k2, k3, k4, k5, k6, k7, k8, k9, k10, k11⟩ := hW
              clear hk0
              go_simp
              try (intro hx; exfalso; omega)
            try simp only [Act.put, List.setIfInBounds_toArray, List.set_cons_zero, List.set_cons_succ]
            refine wpAnyH_take (i := 22) (oi := { dst := some 39, op := Op.binOp BinOp.neq 9 (Operand.tmp 33) (Operand.tmp 38) 9, type := 4, pos := "ref.go:93", after := #[{ on := 16, ground := Ground.data }, { on := 21, ground := Ground.data }, { on := 11, ground := Ground.guard }], guard := some (11, false) }) (v := .bool false) rfl (by kernel_rfl) (by kernel_rfl) (by kernel_rfl) (fun _ _ _ h => h) (Or.inl ⟨by rfl, ?_⟩) hk0 ?_
            · intro W hW
              obtain ⟨k0, k1, k2, k3, k4, k5, k6, k7, k8, k9, k10, k11⟩ := hW
              clear hk0
              go_simp
              try (intro hx; exfalso; omega)
            try simp only [Act.put, List.setIfInBounds_toArray, List.set_cons_zero, List.set_cons_succ]
            refine wpAnyH_take (i := 23) (oi := { dst := some 40, op := Op.pick (Operand.tmp 28) (Operand.const (Value.bool true)) (Operand.tmp 39), type := 4, pos := "ref.go:93", after := #[{ on := 11, ground := Ground.data }, { on := 22, ground := Ground.data }], guard := none }) (v := .bool false) rfl (by kernel_rfl) (by kernel_rfl) (by kernel_rfl) (fun _ _ _ h => h) (Or.inl ⟨by rfl, ?_⟩) hk0 ?_
            · intro W hW
              obtain ⟨k0, k1, k2, k3, k4, k5, k6, k7, k8, k9, k10, k11⟩ := hW
              clear hk0
              go_simp
              try (intro hx; exfalso; omega)
            try simp only [Act.put, List.setIfInBounds_toArray, List.set_cons_zero, List.set_cons_succ]
            refine wpAnyH_take (i := 24) (oi := { dst := some 41, op := Op.move (Operand.tmp 40), type := 4, pos := "ref.go:93", after := #[{ on := 23, ground := Ground.data }, { on := 11, ground := Ground.chain }], guard := none }) (v := .bool false) rfl (by kernel_rfl) (by kernel_rfl) (by kernel_rfl) (fun _ _ _ h => h) (Or.inl ⟨by rfl, ?_⟩) hk0 ?_
            · intro W hW
              obtain ⟨k0, k1, k2, k3, k4, k5, k6, k7, k8, k9, k10, k11⟩ := hW
              clear hk0
              go_simp
              try (intro hx; exfalso; omega)
            try simp only [Act.put, List.setIfInBounds_toArray, List.set_cons_zero, List.set_cons_succ]
            refine wpAnyH_take (i := 25) (oi := { dst := some 42, op := Op.move (Operand.tmp 0), type := 28, pos := "ref.go:93", after := #[{ on := 24, ground := Ground.guard }], guard := some (24, false) }) (v := .slice (some ⟨B, o, none⟩) N cap0) rfl (by kernel_rfl) (by kernel_rfl) (by kernel_rfl) (fun _ _ _ h => h) (Or.inl ⟨by rfl, ?_⟩) hk0 ?_
            · intro W hW
              obtain ⟨k0, k1, k2, k3, k4, k5, k6, k7, k8, k9, k10, k11⟩ := hW
              clear hk0
              go_simp
              try (intro hx; exfalso; omega)
            try simp only [Act.put, List.setIfInBounds_toArray, List.set_cons_zero, List.set_cons_succ]
            refine wpAnyH_take (i := 26) (oi := { dst := some 43, op := Op.move (Operand.tmp 5), type := 3, pos := "ref.go:93", after := #[{ on := 24, ground := Ground.guard }], guard := some (24, false) }) (v := .int .i64 (j : Int)) rfl (by kernel_rfl) (by kernel_rfl) (by kernel_rfl) (fun _ _ _ h => h) (Or.inl ⟨by rfl, ?_⟩) hk0 ?_
            · intro W hW
              obtain ⟨k0, k1, k2, k3, k4, k5, k6, k7, k8, k9, k10, k11⟩ := hW
              clear hk0
              go_simp
              try (intro hx; exfalso; omega)
            try simp only [Act.put, List.setIfInBounds_toArray, List.set_cons_zero, List.set_cons_succ]
            refine wpAnyH_take (i := 27) (oi := { dst := some 44, op := Op.indexAddr 28 (Operand.tmp 42) (Operand.tmp 43), type := 0, pos := "ref.go:93", after := #[{ on := 25, ground := Ground.data }, { on := 26, ground := Ground.data }, { on := 24, ground := Ground.guard }], guard := some (24, false) }) (v := .pointer (some ⟨B, o + j * 6, none⟩)) rfl (by kernel_rfl) (by kernel_rfl) (by kernel_rfl) (fun _ _ _ h => h) (Or.inl ⟨by rfl, ?_⟩) hk0 ?_
            · intro W hW
              obtain ⟨k0, k1, k2, k3, k4, k5, k6, k7, k8, k9, k10, k11⟩ := hW
              clear hk0
              go_simp
              try (intro hx; exfalso; omega)
            try simp only [Act.put, List.setIfInBounds_toArray, List.set_cons_zero, List.set_cons_succ]
            refine wpAnyH_take (i := 28) (oi := { dst := some 45, op := Op.fieldAddr 66 (Operand.tmp 44) 2, type := 0, pos := "ref.go:93", after := #[{ on := 27, ground := Ground.data }, { on := 24, ground := Ground.guard }], guard := some (24, false) }) (v := .pointer (some ⟨B, o + j * 6 + 2, none⟩)) rfl (by kernel_rfl) (by kernel_rfl) (by kernel_rfl) (fun _ _ _ h => h) (Or.inl ⟨by rfl, ?_⟩) hk0 ?_
            · intro W hW
              obtain ⟨k0, k1, k2, k3, k4, k5, k6, k7, k8, k9, k10, k11⟩ := hW
              clear hk0
              go_simp
              try (intro hx; exfalso; omega)
            try simp only [Act.put, List.setIfInBounds_toArray, List.set_cons_zero, List.set_cons_succ]
            refine wpAnyH_take (i := 29) (oi := { dst := some 46, op := Op.load 3 (Operand.tmp 45), type := 3, pos := "ref.go:93", after := #[{ on := 28, ground := Ground.data }, { on := 24, ground := Ground.guard }], guard := some (24, false) }) (v := .int .i64 p) rfl (by kernel_rfl) (by kernel_rfl) (by kernel_rfl) (fun _ _ _ h => h) (Or.inl ⟨by rfl, ?_⟩) hk0 ?_
            · intro W hW
              obtain ⟨k0, k1, k2, k3, k4, k5, k6, k7, k8, k9, k10, k11⟩ := hW
              clear hk0
              go_simp
              try (intro hx; exfalso; omega)
            try simp only [Act.put, List.setIfInBounds_toArray, List.set_cons_zero, List.set_cons_succ]
            refine wpAnyH_take (i := 30) (oi := { dst := some 47, op := Op.move (Operand.tmp 1), type := 28, pos := "ref.go:93", after := #[{ on := 24, ground := Ground.guard }], guard := some (24, false) }) (v := .slice (some ⟨B', o', none⟩) N cap0') rfl (by kernel_rfl) (by kernel_rfl) (by kernel_rfl) (fun _ _ _ h => h) (Or.inl ⟨by rfl, ?_⟩) hk0 ?_
            · intro W hW
              obtain ⟨k0, k1, k2, k3, k4, k5, k6, k7, k8, k9, k10, k11⟩ := hW
              clear hk0
              go_simp
              try (intro hx; exfalso; omega)
            try simp only [Act.put, List.setIfInBounds_toArray, List.set_cons_zero, List.set_cons_succ]
            refine wpAnyH_take (i := 31) (oi := { dst := some 48, op := Op.move (Operand.tmp 5), type := 3, pos := "ref.go:93", after := #[{ on := 24, ground := Ground.guard }], guard := some (24, false) }) (v := .int .i64 (j : Int)) rfl (by kernel_rfl) (by kernel_rfl) (by kernel_rfl) (fun _ _ _ h => h) (Or.inl ⟨by rfl, ?_⟩) hk0 ?_
            · intro W hW
              obtain ⟨k0, k1, k2, k3, k4, k5, k6, k7, k8, k9, k10, k11⟩ := hW
              clear hk0
              go_simp
              try (intro hx; exfalso; omega)
            try simp only [Act.put, List.setIfInBounds_toArray, List.set_cons_zero, List.set_cons_succ]
            refine wpAnyH_take (i := 32) (oi := { dst := some 49, op := Op.indexAddr 28 (Operand.tmp 47) (Operand.tmp 48), type := 0, pos := "ref.go:93", after := #[{ on := 30, ground := Ground.data }, { on := 31, ground := Ground.data }, { on := 24, ground := Ground.guard }], guard := some (24, false) }) (v := .pointer (some ⟨B', o' + j * 6, none⟩)) rfl (by kernel_rfl) (by kernel_rfl) (by kernel_rfl) (fun _ _ _ h => h) (Or.inl ⟨by rfl, ?_⟩) hk0 ?_
            · intro W hW
              obtain ⟨k0, k1, k2, k3, k4, k5, k6, k7, k8, k9, k10, k11⟩ := hW
              clear hk0
              go_simp
              try (intro hx; exfalso; omega)
            try simp only [Act.put, List.setIfInBounds_toArray, List.set_cons_zero, List.set_cons_succ]
            refine wpAnyH_take (i := 33) (oi := { dst := some 50, op := Op.fieldAddr 66 (Operand.tmp 49) 2, type := 0, pos := "ref.go:93", after := #[{ on := 32, ground := Ground.data }, { on := 24, ground := Ground.guard }], guard := some (24, false) }) (v := .pointer (some ⟨B', o' + j * 6 + 2, none⟩)) rfl (by kernel_rfl) (by kernel_rfl) (by kernel_rfl) (fun _ _ _ h => h) (Or.inl ⟨by rfl, ?_⟩) hk0 ?_
            · intro W hW
              obtain ⟨k0, k1, k2, k3, k4, k5, k6, k7, k8, k9, k10, k11⟩ := hW
              clear hk0
              go_simp
              try (intro hx; exfalso; omega)
            try simp only [Act.put, List.setIfInBounds_toArray, List.set_cons_zero, List.set_cons_succ]
            refine wpAnyH_take (i := 34) (oi := { dst := some 51, op := Op.load 3 (Operand.tmp 50), type := 3, pos := "ref.go:93", after := #[{ on := 33, ground := Ground.data }, { on := 24, ground := Ground.guard }], guard := some (24, false) }) (v := .int .i64 p) rfl (by kernel_rfl) (by kernel_rfl) (by kernel_rfl) (fun _ _ _ h => h) (Or.inl ⟨by rfl, ?_⟩) hk0 ?_
            · intro W hW
              obtain ⟨k0, k1, k2, k3, k4, k5, k6, k7, k8, k9, k10, k11⟩ := hW
              clear hk0
              go_simp
              try (intro hx; exfalso; omega)
            try simp only [Act.put, List.setIfInBounds_toArray, List.set_cons_zero, List.set_cons_succ]
            refine wpAnyH_take (i := 35) (oi := { dst := some 52, op := Op.binOp BinOp.neq 3 (Operand.tmp 46) (Operand.tmp 51) 3, type := 4, pos := "ref.go:93", after := #[{ on := 29, ground := Ground.data }, { on := 34, ground := Ground.data }, { on := 24, ground := Ground.guard }], guard := some (24, false) }) (v := .bool false) rfl (by kernel_rfl) (by kernel_rfl) (by kernel_rfl) (fun _ _ _ h => h) (Or.inl ⟨by rfl, ?_⟩) hk0 ?_
            · intro W hW
              obtain ⟨k0, k1, k2, k3, k4, k5, k6, k7, k8, k9, k10, k11⟩ := hW
              clear hk0
              go_simp
              try (intro hx; exfalso; omega)
            try simp only [Act.put, List.setIfInBounds_toArray, List.set_cons_zero, List.set_cons_succ]
            refine wpAnyH_take (i := 36) (oi := { dst := some 53, op := Op.pick (Operand.tmp 41) (Operand.const (Value.bool true)) (Operand.tmp 52), type := 4, pos := "ref.go:93", after := #[{ on := 24, ground := Ground.data }, { on := 35, ground := Ground.data }], guard := none }) (v := .bool false) rfl (by kernel_rfl) (by kernel_rfl) (by kernel_rfl) (fun _ _ _ h => h) (Or.inl ⟨by rfl, ?_⟩) hk0 ?_
            · intro W hW
              obtain ⟨k0, k1, k2, k3, k4, k5, k6, k7, k8, k9, k10, k11⟩ := hW
              clear hk0
              go_simp
              try (intro hx; exfalso; omega)
            try simp only [Act.put, List.setIfInBounds_toArray, List.set_cons_zero, List.set_cons_succ]
            refine wpAnyH_take (i := 37) (oi := { dst := some 54, op := Op.move (Operand.tmp 53), type := 4, pos := "ref.go:93", after := #[{ on := 36, ground := Ground.data }, { on := 24, ground := Ground.chain }], guard := none }) (v := .bool false) rfl (by kernel_rfl) (by kernel_rfl) (by kernel_rfl) (fun _ _ _ h => h) (Or.inl ⟨by rfl, ?_⟩) hk0 ?_
            · intro W hW
              obtain ⟨k0, k1, k2, k3, k4, k5, k6, k7, k8, k9, k10, k11⟩ := hW
              clear hk0
              go_simp
              try (intro hx; exfalso; omega)
            try simp only [Act.put, List.setIfInBounds_toArray, List.set_cons_zero, List.set_cons_succ]
            refine wpAnyH_take (i := 38) (oi := { dst := some 55, op := Op.move (Operand.tmp 0), type := 28, pos := "ref.go:93", after := #[{ on := 37, ground := Ground.guard }], guard := some (37, false) }) (v := .slice (some ⟨B, o, none⟩) N cap0) rfl (by kernel_rfl) (by kernel_rfl) (by kernel_rfl) (fun _ _ _ h => h) (Or.inl ⟨by rfl, ?_⟩) hk0 ?_
            · intro W hW
              obtain ⟨k0, k1, k2, k3, k4, k5, k6, k7, k8, k9, k10, k11⟩ := hW
              clear hk0
              go_simp
              try (intro hx; exfalso; omega)
            try simp only [Act.put, List.setIfInBounds_toArray, List.set_cons_zero, List.set_cons_succ]
            refine wpAnyH_take (i := 39) (oi := { dst := some 56, op := Op.move (Operand.tmp 5), type := 3, pos := "ref.go:93", after := #[{ on := 37, ground := Ground.guard }], guard := some (37, false) }) (v := .int .i64 (j : Int)) rfl (by kernel_rfl) (by kernel_rfl) (by kernel_rfl) (fun _ _ _ h => h) (Or.inl ⟨by rfl, ?_⟩) hk0 ?_
            · intro W hW
              obtain ⟨k0, k1, k2, k3, k4, k5, k6, k7, k8, k9, k10, k11⟩ := hW
              clear hk0
              go_simp
              try (intro hx; exfalso; omega)
            try simp only [Act.put, List.setIfInBounds_toArray, List.set_cons_zero, List.set_cons_succ]
            refine wpAnyH_take (i := 40) (oi := { dst := some 57, op := Op.indexAddr 28 (Operand.tmp 55) (Operand.tmp 56), type := 0, pos := "ref.go:93", after := #[{ on := 38, ground := Ground.data }, { on := 39, ground := Ground.data }, { on := 37, ground := Ground.guard }], guard := some (37, false) }) (v := .pointer (some ⟨B, o + j * 6, none⟩)) rfl (by kernel_rfl) (by kernel_rfl) (by kernel_rfl) (fun _ _ _ h => h) (Or.inl ⟨by rfl, ?_⟩) hk0 ?_
            · intro W hW
              obtain ⟨k0, k1, k2, k3, k4, k5, k6, k7, k8, k9, k10, k11⟩ := hW
              clear hk0
              go_simp
              try (intro hx; exfalso; omega)
            try simp only [Act.put, List.setIfInBounds_toArray, List.set_cons_zero, List.set_cons_succ]
            refine wpAnyH_take (i := 41) (oi := { dst := some 58, op := Op.fieldAddr 66 (Operand.tmp 57) 3, type := 0, pos := "ref.go:93", after := #[{ on := 40, ground := Ground.data }, { on := 37, ground := Ground.guard }], guard := some (37, false) }) (v := .pointer (some ⟨B, o + j * 6 + 3, none⟩)) rfl (by kernel_rfl) (by kernel_rfl) (by kernel_rfl) (fun _ _ _ h => h) (Or.inl ⟨by rfl, ?_⟩) hk0 ?_
            · intro W hW
              obtain ⟨k0, k1, k2, k3, k4, k5, k6, k7, k8, k9, k10, k11⟩ := hW
              clear hk0
              go_simp
              try (intro hx; exfalso; omega)
            try simp only [Act.put, List.setIfInBounds_toArray, List.set_cons_zero, List.set_cons_succ]
            refine wpAnyH_take (i := 42) (oi := { dst := some 59, op := Op.load 4 (Operand.tmp 58), type := 4, pos := "ref.go:93", after := #[{ on := 41, ground := Ground.data }, { on := 37, ground := Ground.guard }], guard := some (37, false) }) (v := .bool c) rfl (by kernel_rfl) (by kernel_rfl) (by kernel_rfl) (fun _ _ _ h => h) (Or.inl ⟨by rfl, ?_⟩) hk0 ?_
            · intro W hW
              obtain ⟨k0, k1, k2, k3, k4, k5, k6, k7, k8, k9, k10, k11⟩ := hW
              clear hk0
              go_simp
              try (intro hx; exfalso; omega)
            try simp only [Act.put, List.setIfInBounds_toArray, List.set_cons_zero, List.set_cons_succ]
            refine wpAnyH_take (i := 43) (oi := { dst := some 60, op := Op.move (Operand.tmp 1), type := 28, pos := "ref.go:93", after := #[{ on := 37, ground := Ground.guard }], guard := some (37, false) }) (v := .slice (some ⟨B', o', none⟩) N cap0') rfl (by kernel_rfl) (by kernel_rfl) (by kernel_rfl) (fun _ _ _ h => h) (Or.inl ⟨by rfl, ?_⟩) hk0 ?_
            · intro W hW
              obtain ⟨k0, k1, k2, k3, k4, k5, k6, k7, k8, k9, k10, k11⟩ := hW
              clear hk0
              go_simp
              try (intro hx; exfalso; omega)
            try simp only [Act.put, List.setIfInBounds_toArray, List.set_cons_zero, List.set_cons_succ]
            refine wpAnyH_take (i := 44) (oi := { dst := some 61, op := Op.move (Operand.tmp 5), type := 3, pos := "ref.go:93", after := #[{ on := 37, ground := Ground.guard }], guard := some (37, false) }) (v := .int .i64 (j : Int)) rfl (by kernel_rfl) (by kernel_rfl) (by kernel_rfl) (fun _ _ _ h => h) (Or.inl ⟨by rfl, ?_⟩) hk0 ?_
            · intro W hW
              obtain ⟨k0, k1, k2, k3, k4, k5, k6, k7, k8, k9, k10, k11⟩ := hW
              clear hk0
              go_simp
              try (intro hx; exfalso; omega)
            try simp only [Act.put, List.setIfInBounds_toArray, List.set_cons_zero, List.set_cons_succ]
            refine wpAnyH_take (i := 45) (oi := { dst := some 62, op := Op.indexAddr 28 (Operand.tmp 60) (Operand.tmp 61), type := 0, pos := "ref.go:93", after := #[{ on := 43, ground := Ground.data }, { on := 44, ground := Ground.data }, { on := 37, ground := Ground.guard }], guard := some (37, false) }) (v := .pointer (some ⟨B', o' + j * 6, none⟩)) rfl (by kernel_rfl) (by kernel_rfl) (by kernel_rfl) (fun _ _ _ h => h) (Or.inl ⟨by rfl, ?_⟩) hk0 ?_
            · intro W hW
              obtain ⟨k0, k1, k2, k3, k4, k5, k6, k7, k8, k9, k10, k11⟩ := hW
              clear hk0
              go_simp
              try (intro hx; exfalso; omega)
            try simp only [Act.put, List.setIfInBounds_toArray, List.set_cons_zero, List.set_cons_succ]
            refine wpAnyH_take (i := 46) (oi := { dst := some 63, op := Op.fieldAddr 66 (Operand.tmp 62) 3, type := 0, pos := "ref.go:93", after := #[{ on := 45, ground := Ground.data }, { on := 37, ground := Ground.guard }], guard := some (37, false) }) (v := .pointer (some ⟨B', o' + j * 6 + 3, none⟩)) rfl (by kernel_rfl) (by kernel_rfl) (by kernel_rfl) (fun _ _ _ h => h) (Or.inl ⟨by rfl, ?_⟩) hk0 ?_
            · intro W hW
              obtain ⟨k0, k1, k2, k3, k4, k5, k6, k7, k8, k9, k10, k11⟩ := hW
              clear hk0
              go_simp
              try (intro hx; exfalso; omega)
            try simp only [Act.put, List.setIfInBounds_toArray, List.set_cons_zero, List.set_cons_succ]
            refine wpAnyH_take (i := 47) (oi := { dst := some 64, op := Op.load 4 (Operand.tmp 63), type := 4, pos := "ref.go:93", after := #[{ on := 46, ground := Ground.data }, { on := 37, ground := Ground.guard }], guard := some (37, false) }) (v := .bool c) rfl (by kernel_rfl) (by kernel_rfl) (by kernel_rfl) (fun _ _ _ h => h) (Or.inl ⟨by rfl, ?_⟩) hk0 ?_
            · intro W hW
              obtain ⟨k0, k1, k2, k3, k4, k5, k6, k7, k8, k9, k10, k11⟩ := hW
              clear hk0
              go_simp
              try (intro hx; exfalso; omega)
            try simp only [Act.put, List.setIfInBounds_toArray, List.set_cons_zero, List.set_cons_succ]
            refine wpAnyH_take (i := 48) (oi := { dst := some 65, op := Op.binOp BinOp.neq 4 (Operand.tmp 59) (Operand.tmp 64) 4, type := 4, pos := "ref.go:93", after := #[{ on := 42, ground := Ground.data }, { on := 47, ground := Ground.data }, { on := 37, ground := Ground.guard }], guard := some (37, false) }) (v := .bool false) rfl (by kernel_rfl) (by kernel_rfl) (by kernel_rfl) (fun _ _ _ h => h) (Or.inl ⟨by rfl, ?_⟩) hk0 ?_
            · intro W hW
              obtain ⟨k0, k1, k2, k3, k4, k5, k6, k7, k8, k9, k10, k11⟩ := hW
              clear hk0
              go_simp
              try (intro hx; exfalso; omega)
            try simp only [Act.put, List.setIfInBounds_toArray, List.set_cons_zero, List.set_cons_succ]
            refine wpAnyH_take (i := 49) (oi := { dst := some 66, op := Op.pick (Operand.tmp 54) (Operand.const (Value.bool true)) (Operand.tmp 65), type := 4, pos := "ref.go:93", after := #[{ on := 37, ground := Ground.data }, { on := 48, ground := Ground.data }], guard := none }) (v := .bool false) rfl (by kernel_rfl) (by kernel_rfl) (by kernel_rfl) (fun _ _ _ h => h) (Or.inl ⟨by rfl, ?_⟩) hk0 ?_
            · intro W hW
              obtain ⟨k0, k1, k2, k3, k4, k5, k6, k7, k8, k9, k10, k11⟩ := hW
              clear hk0
              go_simp
              try (intro hx; exfalso; omega)
            try simp only [Act.put, List.setIfInBounds_toArray, List.set_cons_zero, List.set_cons_succ]
            refine wpAnyH_take (i := 50) (oi := { dst := some 67, op := Op.move (Operand.tmp 66), type := 4, pos := "ref.go:93", after := #[{ on := 49, ground := Ground.data }, { on := 37, ground := Ground.chain }], guard := none }) (v := .bool false) rfl (by kernel_rfl) (by kernel_rfl) (by kernel_rfl) (fun _ _ _ h => h) (Or.inl ⟨by rfl, ?_⟩) hk0 ?_
            · intro W hW
              obtain ⟨k0, k1, k2, k3, k4, k5, k6, k7, k8, k9, k10, k11⟩ := hW
              clear hk0
              go_simp
              try (intro hx; exfalso; omega)
            try simp only [Act.put, List.setIfInBounds_toArray, List.set_cons_zero, List.set_cons_succ]
            refine wpAnyH_take (i := 51) (oi := { dst := some 68, op := Op.move (Operand.tmp 0), type := 28, pos := "ref.go:93", after := #[{ on := 50, ground := Ground.guard }], guard := some (50, false) }) (v := .slice (some ⟨B, o, none⟩) N cap0) rfl (by kernel_rfl) (by kernel_rfl) (by kernel_rfl) (fun _ _ _ h => h) (Or.inl ⟨by rfl, ?_⟩) hk0 ?_
            · intro W hW
              obtain ⟨k0, k1, k2, k3, k4, k5, k6, k7, k8, k9, k10, k11⟩ := hW
              clear hk0
              go_simp
              try (intro hx; exfalso; omega)
            try simp only [Act.put, List.setIfInBounds_toArray, List.set_cons_zero, List.set_cons_succ]
            refine wpAnyH_take (i := 52) (oi := { dst := some 69, op := Op.move (Operand.tmp 5), type := 3, pos := "ref.go:93", after := #[{ on := 50, ground := Ground.guard }], guard := some (50, false) }) (v := .int .i64 (j : Int)) rfl (by kernel_rfl) (by kernel_rfl) (by kernel_rfl) (fun _ _ _ h => h) (Or.inl ⟨by rfl, ?_⟩) hk0 ?_
            · intro W hW
              obtain ⟨k0, k1, k2, k3, k4, k5, k6, k7, k8, k9, k10, k11⟩ := hW
              clear hk0
              go_simp
              try (intro hx; exfalso; omega)
            try simp only [Act.put, List.setIfInBounds_toArray, List.set_cons_zero, List.set_cons_succ]
            refine wpAnyH_take (i := 53) (oi := { dst := some 70, op := Op.indexAddr 28 (Operand.tmp 68) (Operand.tmp 69), type := 0, pos := "ref.go:93", after := #[{ on := 51, ground := Ground.data }, { on := 52, ground := Ground.data }, { on := 50, ground := Ground.guard }], guard := some (50, false) }) (v := .pointer (some ⟨B, o + j * 6, none⟩)) rfl (by kernel_rfl) (by kernel_rfl) (by kernel_rfl) (fun _ _ _ h => h) (Or.inl ⟨by rfl, ?_⟩) hk0 ?_
            · intro W hW
              obtain ⟨k0, k1, k2, k3, k4, k5, k6, k7, k8, k9, k10, k11⟩ := hW
              clear hk0
              go_simp
              try (intro hx; exfalso; omega)
            try simp only [Act.put, List.setIfInBounds_toArray, List.set_cons_zero, List.set_cons_succ]
            refine wpAnyH_take (i := 54) (oi := { dst := some 71, op := Op.fieldAddr 66 (Operand.tmp 70) 4, type := 0, pos := "ref.go:93", after := #[{ on := 53, ground := Ground.data }, { on := 50, ground := Ground.guard }], guard := some (50, false) }) (v := .pointer (some ⟨B, o + j * 6 + 4, none⟩)) rfl (by kernel_rfl) (by kernel_rfl) (by kernel_rfl) (fun _ _ _ h => h) (Or.inl ⟨by rfl, ?_⟩) hk0 ?_
            · intro W hW
              obtain ⟨k0, k1, k2, k3, k4, k5, k6, k7, k8, k9, k10, k11⟩ := hW
              clear hk0
              go_simp
              try (intro hx; exfalso; omega)
            try simp only [Act.put, List.setIfInBounds_toArray, List.set_cons_zero, List.set_cons_succ]
            refine wpAnyH_take (i := 55) (oi := { dst := some 72, op := Op.load 28 (Operand.tmp 71), type := 28, pos := "ref.go:93", after := #[{ on := 54, ground := Ground.data }, { on := 50, ground := Ground.guard }], guard := some (50, false) }) (v := .slice AK mK cK) rfl (by kernel_rfl) (by kernel_rfl) (by kernel_rfl) (fun _ _ _ h => h) (Or.inl ⟨by rfl, ?_⟩) hk0 ?_
            · intro W hW
              obtain ⟨k0, k1, k2, k3, k4, k5, k6, k7, k8, k9, k10, k11⟩ := hW
              clear hk0
              go_simp
              try (intro hx; exfalso; omega)
            try simp only [Act.put, List.setIfInBounds_toArray, List.set_cons_zero, List.set_cons_succ]
            refine wpAnyH_take (i := 56) (oi := { dst := some 73, op := Op.move (Operand.tmp 1), type := 28, pos := "ref.go:93", after := #[{ on := 50, ground := Ground.guard }], guard := some (50, false) }) (v := .slice (some ⟨B', o', none⟩) N cap0') rfl (by kernel_rfl) (by kernel_rfl) (by kernel_rfl) (fun _ _ _ h => h) (Or.inl ⟨by rfl, ?_⟩) hk0 ?_
            · intro W hW
              obtain ⟨k0, k1, k2, k3, k4, k5, k6, k7, k8, k9, k10, k11⟩ := hW
              clear hk0
              go_simp
              try (intro hx; exfalso; omega)
            try simp only [Act.put, List.setIfInBounds_toArray, List.set_cons_zero, List.set_cons_succ]
            refine wpAnyH_take (i := 57) (oi := { dst := some 74, op := Op.move (Operand.tmp 5), type := 3, pos := "ref.go:93", after := #[{ on := 50, ground := Ground.guard }], guard := some (50, false) }) (v := .int .i64 (j : Int)) rfl (by kernel_rfl) (by kernel_rfl) (by kernel_rfl) (fun _ _ _ h => h) (Or.inl ⟨by rfl, ?_⟩) hk0 ?_
            · intro W hW
              obtain ⟨k0, k1, k2, k3, k4, k5, k6, k7, k8, k9, k10, k11⟩ := hW
              clear hk0
              go_simp
              try (intro hx; exfalso; omega)
            try simp only [Act.put, List.setIfInBounds_toArray, List.set_cons_zero, List.set_cons_succ]
            refine wpAnyH_take (i := 58) (oi := { dst := some 75, op := Op.indexAddr 28 (Operand.tmp 73) (Operand.tmp 74), type := 0, pos := "ref.go:93", after := #[{ on := 56, ground := Ground.data }, { on := 57, ground := Ground.data }, { on := 50, ground := Ground.guard }], guard := some (50, false) }) (v := .pointer (some ⟨B', o' + j * 6, none⟩)) rfl (by kernel_rfl) (by kernel_rfl) (by kernel_rfl) (fun _ _ _ h => h) (Or.inl ⟨by rfl, ?_⟩) hk0 ?_
            · intro W hW
              obtain ⟨k0, k1, k2, k3, k4, k5, k6, k7, k8, k9, k10, k11⟩ := hW
              clear hk0
              go_simp
              try (intro hx; exfalso; omega)
            try simp only [Act.put, List.setIfInBounds_toArray, List.set_cons_zero, List.set_cons_succ]
            refine wpAnyH_take (i := 59) (oi := { dst := some 76, op := Op.fieldAddr 66 (Operand.tmp 75) 4, type := 0, pos := "ref.go:93", after := #[{ on := 58, ground := Ground.data }, { on := 50, ground := Ground.guard }], guard := some (50, false) }) (v := .pointer (some ⟨B', o' + j * 6 + 4, none⟩)) rfl (by kernel_rfl) (by kernel_rfl) (by kernel_rfl) (fun _ _ _ h => h) (Or.inl ⟨by rfl, ?_⟩) hk0 ?_
            · intro W hW
              obtain ⟨k0, k1, k2, k3, k4, k5, k6, k7, k8, k9, k10, k11⟩ := hW
              clear hk0
              go_simp
              try (intro hx; exfalso; omega)
            try simp only [Act.put, List.setIfInBounds_toArray, List.set_cons_zero, List.set_cons_succ]
            refine wpAnyH_take (i := 60) (oi := { dst := some 77, op := Op.load 28 (Operand.tmp 76), type := 28, pos := "ref.go:93", after := #[{ on := 59, ground := Ground.data }, { on := 50, ground := Ground.guard }], guard := some (50, false) }) (v := .slice AK' mK' cK') rfl (by kernel_rfl) (by kernel_rfl) (by kernel_rfl) (fun _ _ _ h => h) (Or.inl ⟨by rfl, ?_⟩) hk0 ?_
            · intro W hW
              obtain ⟨k0, k1, k2, k3, k4, k5, k6, k7, k8, k9, k10, k11⟩ := hW
              clear hk0
              go_simp
              try (intro hx; exfalso; omega)
            try simp only [Act.put, List.setIfInBounds_toArray, List.set_cons_zero, List.set_cons_succ]
            refine wpAnyH_ready (rs := [61]) (by kernel_rfl) (by simp) ?_
            refine AllReadyH.cons (o := { dst := some 78, op := Op.call { callee := Callee.value (Operand.func 19), args := #[Operand.tmp 72, Operand.tmp 77], argTypes := #[28, 28] }, type := 4, pos := "ref.go:93", after := #[{ on := 55, ground := Ground.data }, { on := 60, ground := Ground.data }, { on := 50, ground := Ground.chain }, { on := 50, ground := Ground.guard }], guard := some (50, false) }) rfl (fun K hK => ?_) AllReadyH.nil
            go_simp
            (go_at_call 19; refine (hcK.out _ hb0).mono ?_; rintro e w5 ⟨rfl, hc⟩; have hb1 := hb0.trans (hc.mono hb0.size); have hk1 := hS.out w5 hb1; clear hc hk0)
            go_wp2_with fail
            refine hK.out _ _ hk1 (fun _ => ?_)
            clear hK K
            try simp only [Act.put, List.setIfInBounds_toArray, List.set_cons_zero, List.set_cons_succ]
            refine wpAnyH_take (i := 62) (oi := { dst := some 79, op := Op.unOp UnOp.not 4 (Operand.tmp 78), type := 4, pos := "ref.go:93", after := #[{ on := 61, ground := Ground.data }, { on := 50, ground := Ground.guard }], guard := some (50, false) }) (v := .bool false) rfl (by kernel_rfl) (by kernel_rfl) (by kernel_rfl) (fun _ _ _ h => h) (Or.inl ⟨by rfl, ?_⟩) hk1 ?_
            · intro W hW
              obtain ⟨k0, k1, k2, k3, k4, k5, k6, k7, k8, k9, k10, k11⟩ := hW
              clear hk1
              go_simp
              try (intro hx; exfalso; omega)
            try simp only [Act.put, List.setIfInBounds_toArray, List.set_cons_zero, List.set_cons_succ]
            refine wpAnyH_take (i := 63) (oi := { dst := some 80, op := Op.pick (Operand.tmp 67) (Operand.const (Value.bool true)) (Operand.tmp 79), type := 4, pos := "ref.go:93", after := #[{ on := 50, ground := Ground.data }, { on := 62, ground := Ground.data }], guard := none }) (v := .bool false) rfl (by kernel_rfl) (by kernel_rfl) (by kernel_rfl) (fun _ _ _ h => h) (Or.inl ⟨by rfl, ?_⟩) hk1 ?_
            · intro W hW
              obtain ⟨k0, k1, k2, k3, k4, k5, k6, k7, k8, k9, k10, k11⟩ := hW
              clear hk1
              go_simp
              try (intro hx; exfalso; omega)
            try simp only [Act.put, List.setIfInBounds_toArray, List.set_cons_zero, List.set_cons_succ]
            refine wpAnyH_take (i := 64) (oi := { dst := some 81, op := Op.move (Operand.tmp 80), type := 4, pos := "ref.go:93", after := #[{ on := 63, ground := Ground.data }, { on := 61, ground := Ground.chain }], guard := none }) (v := .bool false) rfl (by kernel_rfl) (by kernel_rfl) (by kernel_rfl) (fun _ _ _ h => h) (Or.inl ⟨by rfl, ?_⟩) hk1 ?_
            · intro W hW
              obtain ⟨k0, k1, k2, k3, k4, k5, k6, k7, k8, k9, k10, k11⟩ := hW
              clear hk1
              go_simp
              try (intro hx; exfalso; omega)
            try simp only [Act.put, List.setIfInBounds_toArray, List.set_cons_zero, List.set_cons_succ]
            refine wpAnyH_take (i := 65) (oi := { dst := some 82, op := Op.move (Operand.tmp 0), type := 28, pos := "ref.go:93", after := #[{ on := 64, ground := Ground.guard }], guard := some (64, false) }) (v := .slice (some ⟨B, o, none⟩) N cap0) rfl (by kernel_rfl) (by kernel_rfl) (by kernel_rfl) (fun _ _ _ h => h) (Or.inl ⟨by rfl, ?_⟩) hk1 ?_
            · intro W hW
              obtain ⟨k0, k1, k2, k3, k4, k5, k6, k7, k8, k9, k10, k11⟩ := hW
              clear hk1
              go_simp
              try (intro hx; exfalso; omega)
            try simp only [Act.put, List.setIfInBounds_toArray, List.set_cons_zero, List.set_cons_succ]
            refine wpAnyH_take (i := 66) (oi := { dst := some 83, op := Op.move (Operand.tmp 5), type := 3, pos := "ref.go:93", after := #[{ on := 64, ground := Ground.guard }], guard := some (64, false) }) (v := .int .i64 (j : Int)) rfl (by kernel_rfl) (by kernel_rfl) (by kernel_rfl) (fun _ _ _ h => h) (Or.inl ⟨by rfl, ?_⟩) hk1 ?_
            · intro W hW
              obtain ⟨k0, k1, k2, k3, k4, k5, k6, k7, k8, k9, k10, k11⟩ := hW
              clear hk1
              go_simp
              try (intro hx; exfalso; omega)
            try simp only [Act.put, List.setIfInBounds_toArray, List.set_cons_zero, List.set_cons_succ]
            refine wpAnyH_take (i := 67) (oi := { dst := some 84, op := Op.indexAddr 28 (Operand.tmp 82) (Operand.tmp 83), type := 0, pos := "ref.go:93", after := #[{ on := 65, ground := Ground.data }, { on := 66, ground := Ground.data }, { on := 64, ground := Ground.guard }], guard := some (64, false) }) (v := .pointer (some ⟨B, o + j * 6, none⟩)) rfl (by kernel_rfl) (by kernel_rfl) (by kernel_rfl) (fun _ _ _ h => h) (Or.inl ⟨by rfl, ?_⟩) hk1 ?_
            · intro W hW
              obtain ⟨k0, k1, k2, k3, k4, k5, k6, k7, k8, k9, k10, k11⟩ := hW
              clear hk1
              go_simp
              try (intro hx; exfalso; omega)
            try simp only [Act.put, List.setIfInBounds_toArray, List.set_cons_zero, List.set_cons_succ]
            refine wpAnyH_take (i := 68) (oi := { dst := some 85, op := Op.fieldAddr 66 (Operand.tmp 84) 5, type := 0, pos := "ref.go:93", after := #[{ on := 67, ground := Ground.data }, { on := 64, ground := Ground.guard }], guard := some (64, false) }) (v := .pointer (some ⟨B, o + j * 6 + 5, none⟩)) rfl (by kernel_rfl) (by kernel_rfl) (by kernel_rfl) (fun _ _ _ h => h) (Or.inl ⟨by rfl, ?_⟩) hk1 ?_
            · intro W hW
              obtain ⟨k0, k1, k2, k3, k4, k5, k6, k7, k8, k9, k10, k11⟩ := hW
              clear hk1
              go_simp
              try (intro hx; exfalso; omega)
            try simp only [Act.put, List.setIfInBounds_toArray, List.set_cons_zero, List.set_cons_succ]
            refine wpAnyH_take (i := 69) (oi := { dst := some 86, op := Op.load 22 (Operand.tmp 85), type := 22, pos := "ref.go:93", after := #[{ on := 68, ground := Ground.data }, { on := 64, ground := Ground.guard }], guard := some (64, false) }) (v := .slice AY mY cY) rfl (by kernel_rfl) (by kernel_rfl) (by kernel_rfl) (fun _ _ _ h => h) (Or.inl ⟨by rfl, ?_⟩) hk1 ?_
            · intro W hW
              obtain ⟨k0, k1, k2, k3, k4, k5, k6, k7, k8, k9, k10, k11⟩ := hW
              clear hk1
              go_simp
              try (intro hx; exfalso; omega)
            try simp only [Act.put, List.setIfInBounds_toArray, List.set_cons_zero, List.set_cons_succ]
            refine wpAnyH_take (i := 70) (oi := { dst := some 87, op := Op.move (Operand.tmp 1), type := 28, pos := "ref.go:93", after := #[{ on := 64, ground := Ground.guard }], guard := some (64, false) }) (v := .slice (some ⟨B', o', none⟩) N cap0') rfl (by kernel_rfl) (by kernel_rfl) (by kernel_rfl) (fun _ _ _ h => h) (Or.inl ⟨by rfl, ?_⟩) hk1 ?_
            · intro W hW
              obtain ⟨k0, k1, k2, k3, k4, k5, k6, k7, k8, k9, k10, k11⟩ := hW
              clear hk1
              go_simp
              try (intro hx; exfalso; omega)
            try simp only [Act.put, List.setIfInBounds_toArray, List.set_cons_zero, List.set_cons_succ]
            refine wpAnyH_take (i := 71) (oi := { dst := some 88, op := Op.move (Operand.tmp 5), type := 3, pos := "ref.go:93", after := #[{ on := 64, ground := Ground.guard }], guard := some (64, false) }) (v := .int .i64 (j : Int)) rfl (by kernel_rfl) (by kernel_rfl) (by kernel_rfl) (fun _ _ _ h => h) (Or.inl ⟨by rfl, ?_⟩) hk1 ?_
            · intro W hW
              obtain ⟨k0, k1, k2, k3, k4, k5, k6, k7, k8, k9, k10, k11⟩ := hW
              clear hk1
              go_simp
              try (intro hx; exfalso; omega)
            try simp only [Act.put, List.setIfInBounds_toArray, List.set_cons_zero, List.set_cons_succ]
            refine wpAnyH_take (i := 72) (oi := { dst := some 89, op := Op.indexAddr 28 (Operand.tmp 87) (Operand.tmp 88), type := 0, pos := "ref.go:93", after := #[{ on := 70, ground := Ground.data }, { on := 71, ground := Ground.data }, { on := 64, ground := Ground.guard }], guard := some (64, false) }) (v := .pointer (some ⟨B', o' + j * 6, none⟩)) rfl (by kernel_rfl) (by kernel_rfl) (by kernel_rfl) (fun _ _ _ h => h) (Or.inl ⟨by rfl, ?_⟩) hk1 ?_
            · intro W hW
              obtain ⟨k0, k1, k2, k3, k4, k5, k6, k7, k8, k9, k10, k11⟩ := hW
              clear hk1
              go_simp
              try (intro hx; exfalso; omega)
            try simp only [Act.put, List.setIfInBounds_toArray, List.set_cons_zero, List.set_cons_succ]
            refine wpAnyH_take (i := 73) (oi := { dst := some 90, op := Op.fieldAddr 66 (Operand.tmp 89) 5, type := 0, pos := "ref.go:93", after := #[{ on := 72, ground := Ground.data }, { on := 64, ground := Ground.guard }], guard := some (64, false) }) (v := .pointer (some ⟨B', o' + j * 6 + 5, none⟩)) rfl (by kernel_rfl) (by kernel_rfl) (by kernel_rfl) (fun _ _ _ h => h) (Or.inl ⟨by rfl, ?_⟩) hk1 ?_
            · intro W hW
              obtain ⟨k0, k1, k2, k3, k4, k5, k6, k7, k8, k9, k10, k11⟩ := hW
              clear hk1
              go_simp
              try (intro hx; exfalso; omega)
            try simp only [Act.put, List.setIfInBounds_toArray, List.set_cons_zero, List.set_cons_succ]
            refine wpAnyH_take (i := 74) (oi := { dst := some 91, op := Op.load 22 (Operand.tmp 90), type := 22, pos := "ref.go:93", after := #[{ on := 73, ground := Ground.data }, { on := 64, ground := Ground.guard }], guard := some (64, false) }) (v := .slice AY' mY' cY') rfl (by kernel_rfl) (by kernel_rfl) (by kernel_rfl) (fun _ _ _ h => h) (Or.inl ⟨by rfl, ?_⟩) hk1 ?_
            · intro W hW
              obtain ⟨k0, k1, k2, k3, k4, k5, k6, k7, k8, k9, k10, k11⟩ := hW
              clear hk1
              go_simp
              try (intro hx; exfalso; omega)
            try simp only [Act.put, List.setIfInBounds_toArray, List.set_cons_zero, List.set_cons_succ]
            refine wpAnyH_ready (rs := [75]) (by kernel_rfl) (by simp) ?_
            refine AllReadyH.cons (o := { dst := some 92, op := Op.call { callee := Callee.value (Operand.func 17), args := #[Operand.tmp 86, Operand.tmp 91], argTypes := #[22, 22] }, type := 4, pos := "ref.go:93", after := #[{ on := 69, ground := Ground.data }, { on := 74, ground := Ground.data }, { on := 64, ground := Ground.chain }, { on := 64, ground := Ground.guard }], guard := some (64, false) }) rfl (fun K hK => ?_) AllReadyH.nil
            go_simp
            (go_at_call 17; refine (hcY.out _ hb1).mono ?_; rintro e w6 ⟨rfl, hc⟩; have hb2 := hb1.trans (hc.mono hb1.size); have hk2 := hS.out w6 hb2; clear hc hk1)
            go_wp2_with fail
            refine hK.out _ _ hk2 (fun _ => ?_)
            clear hK K
            try simp only [Act.put, List.setIfInBounds_toArray, List.set_cons_zero, List.set_cons_succ]
            refine wpAnyH_take (i := 76) (oi := { dst := some 93, op := Op.unOp UnOp.not 4 (Operand.tmp 92), type := 4, pos := "ref.go:93", after := #[{ on := 75, ground := Ground.data }, { on := 64, ground := Ground.guard }], guard := some (64, false) }) (v := .bool false) rfl (by kernel_rfl) (by kernel_rfl) (by kernel_rfl) (fun _ _ _ h => h) (Or.inl ⟨by rfl, ?_⟩) hk2 ?_
            · intro W hW
              obtain ⟨k0, k1, k2, k3, k4, k5, k6, k7, k8, k9, k10, k11⟩ := hW
              clear hk2
              go_simp
              try (intro hx; exfalso; omega)
            try simp only [Act.put, List.setIfInBounds_toArray, List.set_cons_zero, List.set_cons_succ]
            refine wpAnyH_take (i := 77) (oi := { dst := some 94, op := Op.pick (Operand.tmp 81) (Operand.const (Value.bool true)) (Operand.tmp 93), type := 4, pos := "ref.go:93", after := #[{ on := 64, ground := Ground.data }, { on := 76, ground := Ground.data }], guard := none }) (v := .bool false) rfl (by kernel_rfl) (by kernel_rfl) (by kernel_rfl) (fun _ _ _ h => h) (Or.inl ⟨by rfl, ?_⟩) hk2 ?_
            · intro W hW
              obtain ⟨k0, k1, k2, k3, k4, k5, k6, k7, k8, k9, k10, k11⟩ := hW
              clear hk2
              go_simp
              try (intro hx; exfalso; omega)
            try simp only [Act.put, List.setIfInBounds_toArray, List.set_cons_zero, List.set_cons_succ]
            refine wpAnyH_done (by kernel_rfl) ?_ _
            have hBE := Lib.hid (hB.out.trans (hb2.mono hB.out.size))
            have hWR := Lib.hid hb2
            clear hb0 hb1 hb2 hk2 hS hend hcK hcY
            go_wp2
            go_roundw
            case rel => exact ⟨j + 1, by omega, by go_num, hBE, hsE⟩
            case measure => simp [intOf]; omega
      · obtain rfl : j = N := by omega
        have hj3 : ¬ (j : Int) < (j : Int) := by omega
        have hsE : X = true := hs.out.trans (same_nd (hN.out.trans hN'.out.symm) hN.out.symm)
        subst hsE
        clear hs
        go_wp2
        go_ret
        exact ⟨rfl, hB.out⟩
  · have hsE : X = false := hX.out.symm.trans (same_len _ _ (by rw [hN.out, hN'.out]; exact hne))
    subst hsE
    have hn2 : ((N : Int) == (N' : Int)) = false := beq_eq_false_iff_ne.2 (by omega)
    have hn3 : ((N : Int) != (N' : Int)) = true := bne_iff_ne.2 (by omega)
    go_enter Tryz.func19, Tryz.ntmps19
    go_wp2
    go_ret
    exact ⟨rfl, hB0.out⟩
end
end Go.Proofs.YtmchfoedjajbdaaGreat
