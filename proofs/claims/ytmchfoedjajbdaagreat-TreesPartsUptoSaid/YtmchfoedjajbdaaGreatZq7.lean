/-
  trees.all of each kind of row, with a question that is a method of some judge. Conditions: the question changes nothing that is there.
-/
import Derived.Laws.EntriesVeiled
import Derived.Test.YtmchfoedjajbdaaGreatZq6
set_option linter.unusedSimpArgs false
set_option linter.unusedVariables false
namespace Go.Proofs.YtmchfoedjajbdaaGreat
open Go Go.RowKit Go.ChangeMaps

section
variable {w0 w : World} {A : Option Addr} {c0 jb : Nat} {f : F} {R q : Nat → Bool}
set_option maxRecDepth 100000 in
set_option maxHeartbeats 4000000 in
theorem allq_node (ht : Ty f 0) (hs : Slc w0 A c0 f) (hb : Below w0.heap.size w0 w)
    (hR : ∀ j, j < f.len → R j = (q j && R (j + 1))) (hRN : R f.len = true)
    (hE : ∀ j, j < f.len → ∀ W, Below w.heap.size w W → ∀ v, ElV w0 (f.drop j) v → Calls Tryz.prog 45 #[.pointer (some ⟨jb, 0, none⟩), v] W fun e w' => e = .returned (.bool (q j)) ∧ Below W.heap.size W w') :
    Calls Tryz.prog 44 #[.slice A f.len c0, .func (.func 45) #[.pointer (some ⟨jb, 0, none⟩)] #[]] w fun e w' => e = .returned (.bool (R 0)) ∧ Below w.heap.size w w' := by
  have hm := hs.1
  have hcm := hs.2.1
  unfold maxLen at hcm
  obtain ⟨N, hN⟩ : ∃ N, f.len = N := ⟨_, rfl⟩
  obtain ⟨X, hX⟩ : ∃ X, R 0 = X := ⟨_, rfl⟩
  rw [hN] at hm hRN ⊢
  rw [hX]
  have hI0 : Hid (X = R 0) := Lib.hid hX.symm
  have hB0 : Hid (Below w.heap.size w w) := Lib.hid (Below.refl _ _)
  replace hs := Lib.hid hs
  replace ht := Lib.hid ht
  replace hN := Lib.hid hN
  replace hb := Lib.hid hb
  replace hE := Lib.hid hE
  replace hR := Lib.hid hR
  replace hRN := Lib.hid hRN
  clear hX
  go_enter Tryz.func44, Tryz.ntmps44
  go_wp2
  go_loopw [9] (fun iv wr => ∃ j : Nat, j ≤ N ∧ iv = .int .i64 (j : Int) ∧ Hid (Below w.heap.size w wr) ∧ Hid (X = R j)) (fun iv _ => N - (intOf iv).toNat)
  case atStart => exact ⟨0, Nat.zero_le _, rfl, hB0, hI0⟩
  case round =>
    clear hB0 hI0
    obtain ⟨j, hj, rfl, hB, hI⟩ := hrel
    by_cases hlt : j < N
    · have hj1 : (0 : Int) ≤ (j : Int) := by omega
      have hj2 : (j : Int) < (N : Int) := by omega
      obtain ⟨B, o, rfl, hBl, hrw⟩ := hs.out.2.2 (by rw [hN.out]; omega)
      have hb2 := hb.out.trans (hB.out.mono hb.out.size)
      obtain ⟨k, b, n, g, AS, mS, cS, AW, mW, cW, AR, mR, cR, AL, mL, cL, AC, mC, cC, e0, e1, e2, e3, e4, e5, e6, e7, e8, hv⟩ := el_node (rw_drop j ht.out (by rw [hN.out]; omega) hrw) (ty_drop j ht.out) (by rw [drop_len, hN.out]; omega)
      replace e0 := cell_below hb2 hBl e0
      replace e1 := cell_below hb2 hBl e1
      replace e2 := cell_below hb2 hBl e2
      replace e3 := cell_below hb2 hBl e3
      replace e4 := cell_below hb2 hBl e4
      replace e5 := cell_below hb2 hBl e5
      replace e6 := cell_below hb2 hBl e6
      replace e7 := cell_below hb2 hBl e7
      replace e8 := cell_below hb2 hBl e8
      have hl : B < wr.heap.size := Nat.lt_of_lt_of_le hBl hb2.size
      have hEj := hE.out j (by rw [hN.out]; exact hlt)
      have hgo := Lib.hid (hI.out.trans (hR.out j (by rw [hN.out]; exact hlt)))
      generalize q j = Q at hgo hEj
      unfold szT at e0 e1 e2 e3 e4 e5 e6 e7 e8
      clear hrw hI hBl hb2
      have bA := Blk.new wr [.int .i64 k, .bool b, .string n, .bool g, .slice AS mS cS, .slice AW mW cW, .slice AR mR cR, .slice AL mL cL, .slice AC mC cC] 43
      have hbA : Below wr.heap.size wr (wr.alloc (.cells #[.int .i64 k, .bool b, .string n, .bool g, .slice AS mS cS, .slice AW mW cW, .slice AR mR cR, .slice AL mL cL, .slice AC mC cC] 43)) := (Below.refl _ wr).alloc (Nat.le_refl _) _
      have hBA := hB.out.trans (hbA.mono hB.out.size)
      have hc := hEj _ hBA _ hv
      replace bA := Lib.hid bA
      replace hBA := Lib.hid hBA
      replace hc := Lib.hid hc
      clear hv hbA hB hEj
      go_upto_region 4 with fail
      clear e0 e1 e2 e3 e4 e5 e6 e7 e8 hl
      generalize (wr.alloc (.cells #[.int .i64 k, .bool b, .string n, .bool g, .slice AS mS cS, .slice AW mW cW, .slice AR mR cR, .slice AL mL cL, .slice AC mC cC] 43)) = wA at bA hc hBA ⊢
      generalize wr.heap.size = y at bA ⊢
      have y0 := bA.out.cell (i := 0) rfl
      have y1 := bA.out.cell (i := 1) rfl
      have y2 := bA.out.cell (i := 2) rfl
      have y3 := bA.out.cell (i := 3) rfl
      have y4 := bA.out.cell (i := 4) rfl
      have y5 := bA.out.cell (i := 5) rfl
      have y6 := bA.out.cell (i := 6) rfl
      have y7 := bA.out.cell (i := 7) rfl
      have y8 := bA.out.cell (i := 8) rfl
      have yl := bA.out.lt
      replace hc := hc.out
      clear bA
      go_wp2_with fail
      refine hc.mono ?_
      rintro e w5 ⟨rfl, hb5⟩
      have hBE := Lib.hid (hBA.out.trans (hb5.mono hBA.out.size))
      clear hc hb5 hBA yl y0 y1 y2 y3 y4 y5 y6 y7 y8
      cases Q with
      | true =>
        have hsE : Hid (X = R (j + 1)) := Lib.hid (by rw [hgo.out]; rfl)
        clear hgo
        go_wp2
        go_roundw
        case rel => exact ⟨j + 1, by omega, by go_num, hBE, hsE⟩
        case measure => simp [intOf]; omega
      | false =>
        have hsE : X = false := by rw [hgo.out]; rfl
        subst hsE
        clear hgo
        go_wp2
        go_ret
        exact ⟨rfl, hBE.out⟩
    · obtain rfl : j = N := by omega
      have hj3 : ¬ (j : Int) < (j : Int) := by omega
      have hsE : X = true := hI.out.trans hRN.out
      subst hsE
      clear hI
      go_wp2
      go_ret
      exact ⟨rfl, hB.out⟩
set_option maxRecDepth 100000 in
set_option maxHeartbeats 4000000 in
theorem allq_set (ht : Ty f 2) (hs : Slc w0 A c0 f) (hb : Below w0.heap.size w0 w)
    (hR : ∀ j, j < f.len → R j = (q j && R (j + 1))) (hRN : R f.len = true)
    (hE : ∀ j, j < f.len → ∀ W, Below w.heap.size w W → ∀ v, ElV w0 (f.drop j) v → Calls Tryz.prog 80 #[.pointer (some ⟨jb, 0, none⟩), v] W fun e w' => e = .returned (.bool (q j)) ∧ Below W.heap.size W w') :
    Calls Tryz.prog 79 #[.slice A f.len c0, .func (.func 80) #[.pointer (some ⟨jb, 0, none⟩)] #[]] w fun e w' => e = .returned (.bool (R 0)) ∧ Below w.heap.size w w' := by
  have hm := hs.1
  have hcm := hs.2.1
  unfold maxLen at hcm
  obtain ⟨N, hN⟩ : ∃ N, f.len = N := ⟨_, rfl⟩
  obtain ⟨X, hX⟩ : ∃ X, R 0 = X := ⟨_, rfl⟩
  rw [hN] at hm hRN ⊢
  rw [hX]
  have hI0 : Hid (X = R 0) := Lib.hid hX.symm
  have hB0 : Hid (Below w.heap.size w w) := Lib.hid (Below.refl _ _)
  replace hs := Lib.hid hs
  replace ht := Lib.hid ht
  replace hN := Lib.hid hN
  replace hb := Lib.hid hb
  replace hE := Lib.hid hE
  replace hR := Lib.hid hR
  replace hRN := Lib.hid hRN
  clear hX
  go_enter Tryz.func79, Tryz.ntmps79
  go_wp2
  go_loopw [9] (fun iv wr => ∃ j : Nat, j ≤ N ∧ iv = .int .i64 (j : Int) ∧ Hid (Below w.heap.size w wr) ∧ Hid (X = R j)) (fun iv _ => N - (intOf iv).toNat)
  case atStart => exact ⟨0, Nat.zero_le _, rfl, hB0, hI0⟩
  case round =>
    clear hB0 hI0
    obtain ⟨j, hj, rfl, hB, hI⟩ := hrel
    by_cases hlt : j < N
    · have hj1 : (0 : Int) ≤ (j : Int) := by omega
      have hj2 : (j : Int) < (N : Int) := by omega
      obtain ⟨B, o, rfl, hBl, hrw⟩ := hs.out.2.2 (by rw [hN.out]; omega)
      have hb2 := hb.out.trans (hB.out.mono hb.out.size)
      obtain ⟨n, Ax, mx, cx, e0, e1, hv⟩ := el_set (rw_drop j ht.out (by rw [hN.out]; omega) hrw) (ty_drop j ht.out) (by rw [drop_len, hN.out]; omega)
      replace e0 := cell_below hb2 hBl e0
      replace e1 := cell_below hb2 hBl e1
      have hl : B < wr.heap.size := Nat.lt_of_lt_of_le hBl hb2.size
      have hEj := hE.out j (by rw [hN.out]; exact hlt)
      have hgo := Lib.hid (hI.out.trans (hR.out j (by rw [hN.out]; exact hlt)))
      generalize q j = Q at hgo hEj
      unfold szT at e0 e1
      clear hrw hI hBl hb2
      have bA := Blk.new wr [.string n, .slice Ax mx cx] 50
      have hbA : Below wr.heap.size wr (wr.alloc (.cells #[.string n, .slice Ax mx cx] 50)) := (Below.refl _ wr).alloc (Nat.le_refl _) _
      have hBA := hB.out.trans (hbA.mono hB.out.size)
      have hc := hEj _ hBA _ hv
      replace bA := Lib.hid bA
      replace hBA := Lib.hid hBA
      replace hc := Lib.hid hc
      clear hv hbA hB hEj
      go_upto_region 4 with fail
      clear e0 e1 hl
      generalize (wr.alloc (.cells #[.string n, .slice Ax mx cx] 50)) = wA at bA hc hBA ⊢
      generalize wr.heap.size = y at bA ⊢
      have y0 := bA.out.cell (i := 0) rfl
      have y1 := bA.out.cell (i := 1) rfl
      have yl := bA.out.lt
      replace hc := hc.out
      clear bA
      go_wp2_with fail
      refine hc.mono ?_
      rintro e w5 ⟨rfl, hb5⟩
      have hBE := Lib.hid (hBA.out.trans (hb5.mono hBA.out.size))
      clear hc hb5 hBA yl y0 y1
      cases Q with
      | true =>
        have hsE : Hid (X = R (j + 1)) := Lib.hid (by rw [hgo.out]; rfl)
        clear hgo
        go_wp2
        go_roundw
        case rel => exact ⟨j + 1, by omega, by go_num, hBE, hsE⟩
        case measure => simp [intOf]; omega
      | false =>
        have hsE : X = false := by rw [hgo.out]; rfl
        subst hsE
        clear hgo
        go_wp2
        go_ret
        exact ⟨rfl, hBE.out⟩
    · obtain rfl : j = N := by omega
      have hj3 : ¬ (j : Int) < (j : Int) := by omega
      have hsE : X = true := hI.out.trans hRN.out
      subst hsE
      clear hI
      go_wp2
      go_ret
      exact ⟨rfl, hB.out⟩
set_option maxRecDepth 100000 in
set_option maxHeartbeats 4000000 in
theorem allq_redir (ht : Ty f 3) (hs : Slc w0 A c0 f) (hb : Below w0.heap.size w0 w)
    (hR : ∀ j, j < f.len → R j = (q j && R (j + 1))) (hRN : R f.len = true)
    (hE : ∀ j, j < f.len → ∀ W, Below w.heap.size w W → ∀ v, ElV w0 (f.drop j) v → Calls Tryz.prog 84 #[.pointer (some ⟨jb, 0, none⟩), v] W fun e w' => e = .returned (.bool (q j)) ∧ Below W.heap.size W w') :
    Calls Tryz.prog 83 #[.slice A f.len c0, .func (.func 84) #[.pointer (some ⟨jb, 0, none⟩)] #[]] w fun e w' => e = .returned (.bool (R 0)) ∧ Below w.heap.size w w' := by
  have hm := hs.1
  have hcm := hs.2.1
  unfold maxLen at hcm
  obtain ⟨N, hN⟩ : ∃ N, f.len = N := ⟨_, rfl⟩
  obtain ⟨X, hX⟩ : ∃ X, R 0 = X := ⟨_, rfl⟩
  rw [hN] at hm hRN ⊢
  rw [hX]
  have hI0 : Hid (X = R 0) := Lib.hid hX.symm
  have hB0 : Hid (Below w.heap.size w w) := Lib.hid (Below.refl _ _)
  replace hs := Lib.hid hs
  replace ht := Lib.hid ht
  replace hN := Lib.hid hN
  replace hb := Lib.hid hb
  replace hE := Lib.hid hE
  replace hR := Lib.hid hR
  replace hRN := Lib.hid hRN
  clear hX
  go_enter Tryz.func83, Tryz.ntmps83
  go_wp2
  go_loopw [9] (fun iv wr => ∃ j : Nat, j ≤ N ∧ iv = .int .i64 (j : Int) ∧ Hid (Below w.heap.size w wr) ∧ Hid (X = R j)) (fun iv _ => N - (intOf iv).toNat)
  case atStart => exact ⟨0, Nat.zero_le _, rfl, hB0, hI0⟩
  case round =>
    clear hB0 hI0
    obtain ⟨j, hj, rfl, hB, hI⟩ := hrel
    by_cases hlt : j < N
    · have hj1 : (0 : Int) ≤ (j : Int) := by omega
      have hj2 : (j : Int) < (N : Int) := by omega
      obtain ⟨B, o, rfl, hBl, hrw⟩ := hs.out.2.2 (by rw [hN.out]; omega)
      have hb2 := hb.out.trans (hB.out.mono hb.out.size)
      obtain ⟨d, k, Ax, mx, cx, e0, e1, e2, hv⟩ := el_redir (rw_drop j ht.out (by rw [hN.out]; omega) hrw) (ty_drop j ht.out) (by rw [drop_len, hN.out]; omega)
      replace e0 := cell_below hb2 hBl e0
      replace e1 := cell_below hb2 hBl e1
      replace e2 := cell_below hb2 hBl e2
      have hl : B < wr.heap.size := Nat.lt_of_lt_of_le hBl hb2.size
      have hEj := hE.out j (by rw [hN.out]; exact hlt)
      have hgo := Lib.hid (hI.out.trans (hR.out j (by rw [hN.out]; exact hlt)))
      generalize q j = Q at hgo hEj
      unfold szT at e0 e1 e2
      clear hrw hI hBl hb2
      have bA := Blk.new wr [.int .i64 d, .int .i64 k, .slice Ax mx cx] 69
      have hbA : Below wr.heap.size wr (wr.alloc (.cells #[.int .i64 d, .int .i64 k, .slice Ax mx cx] 69)) := (Below.refl _ wr).alloc (Nat.le_refl _) _
      have hBA := hB.out.trans (hbA.mono hB.out.size)
      have hc := hEj _ hBA _ hv
      replace bA := Lib.hid bA
      replace hBA := Lib.hid hBA
      replace hc := Lib.hid hc
      clear hv hbA hB hEj
      go_upto_region 4 with fail
      clear e0 e1 e2 hl
      generalize (wr.alloc (.cells #[.int .i64 d, .int .i64 k, .slice Ax mx cx] 69)) = wA at bA hc hBA ⊢
      generalize wr.heap.size = y at bA ⊢
      have y0 := bA.out.cell (i := 0) rfl
      have y1 := bA.out.cell (i := 1) rfl
      have y2 := bA.out.cell (i := 2) rfl
      have yl := bA.out.lt
      replace hc := hc.out
      clear bA
      go_wp2_with fail
      refine hc.mono ?_
      rintro e w5 ⟨rfl, hb5⟩
      have hBE := Lib.hid (hBA.out.trans (hb5.mono hBA.out.size))
      clear hc hb5 hBA yl y0 y1 y2
      cases Q with
      | true =>
        have hsE : Hid (X = R (j + 1)) := Lib.hid (by rw [hgo.out]; rfl)
        clear hgo
        go_wp2
        go_roundw
        case rel => exact ⟨j + 1, by omega, by go_num, hBE, hsE⟩
        case measure => simp [intOf]; omega
      | false =>
        have hsE : X = false := by rw [hgo.out]; rfl
        subst hsE
        clear hgo
        go_wp2
        go_ret
        exact ⟨rfl, hBE.out⟩
    · obtain rfl : j = N := by omega
      have hj3 : ¬ (j : Int) < (j : Int) := by omega
      have hsE : X = true := hI.out.trans hRN.out
      subst hsE
      clear hI
      go_wp2
      go_ret
      exact ⟨rfl, hB.out⟩
set_option maxRecDepth 100000 in
set_option maxHeartbeats 4000000 in
theorem allq_case (ht : Ty f 4) (hs : Slc w0 A c0 f) (hb : Below w0.heap.size w0 w)
    (hR : ∀ j, j < f.len → R j = (q j && R (j + 1))) (hRN : R f.len = true)
    (hE : ∀ j, j < f.len → ∀ W, Below w.heap.size w W → ∀ v, ElV w0 (f.drop j) v → Calls Tryz.prog 87 #[.pointer (some ⟨jb, 0, none⟩), v] W fun e w' => e = .returned (.bool (q j)) ∧ Below W.heap.size W w') :
    Calls Tryz.prog 86 #[.slice A f.len c0, .func (.func 87) #[.pointer (some ⟨jb, 0, none⟩)] #[]] w fun e w' => e = .returned (.bool (R 0)) ∧ Below w.heap.size w w' := by
  have hm := hs.1
  have hcm := hs.2.1
  unfold maxLen at hcm
  obtain ⟨N, hN⟩ : ∃ N, f.len = N := ⟨_, rfl⟩
  obtain ⟨X, hX⟩ : ∃ X, R 0 = X := ⟨_, rfl⟩
  rw [hN] at hm hRN ⊢
  rw [hX]
  have hI0 : Hid (X = R 0) := Lib.hid hX.symm
  have hB0 : Hid (Below w.heap.size w w) := Lib.hid (Below.refl _ _)
  replace hs := Lib.hid hs
  replace ht := Lib.hid ht
  replace hN := Lib.hid hN
  replace hb := Lib.hid hb
  replace hE := Lib.hid hE
  replace hR := Lib.hid hR
  replace hRN := Lib.hid hRN
  clear hX
  go_enter Tryz.func86, Tryz.ntmps86
  go_wp2
  go_loopw [9] (fun iv wr => ∃ j : Nat, j ≤ N ∧ iv = .int .i64 (j : Int) ∧ Hid (Below w.heap.size w wr) ∧ Hid (X = R j)) (fun iv _ => N - (intOf iv).toNat)
  case atStart => exact ⟨0, Nat.zero_le _, rfl, hB0, hI0⟩
  case round =>
    clear hB0 hI0
    obtain ⟨j, hj, rfl, hB, hI⟩ := hrel
    by_cases hlt : j < N
    · have hj1 : (0 : Int) ≤ (j : Int) := by omega
      have hj2 : (j : Int) < (N : Int) := by omega
      obtain ⟨B, o, rfl, hBl, hrw⟩ := hs.out.2.2 (by rw [hN.out]; omega)
      have hb2 := hb.out.trans (hB.out.mono hb.out.size)
      obtain ⟨AW, mW, cW, AY, mY, cY, e0, e1, hv⟩ := el_case (rw_drop j ht.out (by rw [hN.out]; omega) hrw) (ty_drop j ht.out) (by rw [drop_len, hN.out]; omega)
      replace e0 := cell_below hb2 hBl e0
      replace e1 := cell_below hb2 hBl e1
      have hl : B < wr.heap.size := Nat.lt_of_lt_of_le hBl hb2.size
      have hEj := hE.out j (by rw [hN.out]; exact hlt)
      have hgo := Lib.hid (hI.out.trans (hR.out j (by rw [hN.out]; exact hlt)))
      generalize q j = Q at hgo hEj
      unfold szT at e0 e1
      clear hrw hI hBl hb2
      have bA := Blk.new wr [.slice AW mW cW, .slice AY mY cY] 45
      have hbA : Below wr.heap.size wr (wr.alloc (.cells #[.slice AW mW cW, .slice AY mY cY] 45)) := (Below.refl _ wr).alloc (Nat.le_refl _) _
      have hBA := hB.out.trans (hbA.mono hB.out.size)
      have hc := hEj _ hBA _ hv
      replace bA := Lib.hid bA
      replace hBA := Lib.hid hBA
      replace hc := Lib.hid hc
      clear hv hbA hB hEj
      go_upto_region 4 with fail
      clear e0 e1 hl
      generalize (wr.alloc (.cells #[.slice AW mW cW, .slice AY mY cY] 45)) = wA at bA hc hBA ⊢
      generalize wr.heap.size = y at bA ⊢
      have y0 := bA.out.cell (i := 0) rfl
      have y1 := bA.out.cell (i := 1) rfl
      have yl := bA.out.lt
      replace hc := hc.out
      clear bA
      go_wp2_with fail
      refine hc.mono ?_
      rintro e w5 ⟨rfl, hb5⟩
      have hBE := Lib.hid (hBA.out.trans (hb5.mono hBA.out.size))
      clear hc hb5 hBA yl y0 y1
      cases Q with
      | true =>
        have hsE : Hid (X = R (j + 1)) := Lib.hid (by rw [hgo.out]; rfl)
        clear hgo
        go_wp2
        go_roundw
        case rel => exact ⟨j + 1, by omega, by go_num, hBE, hsE⟩
        case measure => simp [intOf]; omega
      | false =>
        have hsE : X = false := by rw [hgo.out]; rfl
        subst hsE
        clear hgo
        go_wp2
        go_ret
        exact ⟨rfl, hBE.out⟩
    · obtain rfl : j = N := by omega
      have hj3 : ¬ (j : Int) < (j : Int) := by omega
      have hsE : X = true := hI.out.trans hRN.out
      subst hsE
      clear hI
      go_wp2
      go_ret
      exact ⟨rfl, hB.out⟩
set_option maxRecDepth 100000 in
set_option maxHeartbeats 4000000 in
theorem allq_word (ht : Ty f 5) (hs : Slc w0 A c0 f) (hb : Below w0.heap.size w0 w)
    (hR : ∀ j, j < f.len → R j = (q j && R (j + 1))) (hRN : R f.len = true)
    (hE : ∀ j, j < f.len → ∀ W, Below w.heap.size w W → ∀ v, ElV w0 (f.drop j) v → Calls Tryz.prog 82 #[.pointer (some ⟨jb, 0, none⟩), v] W fun e w' => e = .returned (.bool (q j)) ∧ Below W.heap.size W w') :
    Calls Tryz.prog 81 #[.slice A f.len c0, .func (.func 82) #[.pointer (some ⟨jb, 0, none⟩)] #[]] w fun e w' => e = .returned (.bool (R 0)) ∧ Below w.heap.size w w' := by
  have hm := hs.1
  have hcm := hs.2.1
  unfold maxLen at hcm
  obtain ⟨N, hN⟩ : ∃ N, f.len = N := ⟨_, rfl⟩
  obtain ⟨X, hX⟩ : ∃ X, R 0 = X := ⟨_, rfl⟩
  rw [hN] at hm hRN ⊢
  rw [hX]
  have hI0 : Hid (X = R 0) := Lib.hid hX.symm
  have hB0 : Hid (Below w.heap.size w w) := Lib.hid (Below.refl _ _)
  replace hs := Lib.hid hs
  replace ht := Lib.hid ht
  replace hN := Lib.hid hN
  replace hb := Lib.hid hb
  replace hE := Lib.hid hE
  replace hR := Lib.hid hR
  replace hRN := Lib.hid hRN
  clear hX
  go_enter Tryz.func81, Tryz.ntmps81
  go_wp2
  go_loopw [9] (fun iv wr => ∃ j : Nat, j ≤ N ∧ iv = .int .i64 (j : Int) ∧ Hid (Below w.heap.size w wr) ∧ Hid (X = R j)) (fun iv _ => N - (intOf iv).toNat)
  case atStart => exact ⟨0, Nat.zero_le _, rfl, hB0, hI0⟩
  case round =>
    clear hB0 hI0
    obtain ⟨j, hj, rfl, hB, hI⟩ := hrel
    by_cases hlt : j < N
    · have hj1 : (0 : Int) ≤ (j : Int) := by omega
      have hj2 : (j : Int) < (N : Int) := by omega
      obtain ⟨B, o, rfl, hBl, hrw⟩ := hs.out.2.2 (by rw [hN.out]; omega)
      have hb2 := hb.out.trans (hB.out.mono hb.out.size)
      obtain ⟨Ax, mx, cx, e0, hv⟩ := el_word (rw_drop j ht.out (by rw [hN.out]; omega) hrw) (ty_drop j ht.out) (by rw [drop_len, hN.out]; omega)
      replace e0 := cell_below hb2 hBl e0
      have hl : B < wr.heap.size := Nat.lt_of_lt_of_le hBl hb2.size
      have hEj := hE.out j (by rw [hN.out]; exact hlt)
      have hgo := Lib.hid (hI.out.trans (hR.out j (by rw [hN.out]; exact hlt)))
      generalize q j = Q at hgo hEj
      rw [show szT 5 = 1 from rfl, Nat.mul_one] at e0
      clear hrw hI hBl hb2
      have hc := hEj _ hB.out _ hv
      clear hv hEj
      go_wp2_with fail
      refine hc.mono ?_
      rintro e w5 ⟨rfl, hb5⟩
      have hBE := Lib.hid (hB.out.trans (hb5.mono hB.out.size))
      clear hc hb5 hB hl e0
      cases Q with
      | true =>
        have hsE : Hid (X = R (j + 1)) := Lib.hid (by rw [hgo.out]; rfl)
        clear hgo
        go_wp2
        go_roundw
        case rel => exact ⟨j + 1, by omega, by go_num, hBE, hsE⟩
        case measure => simp [intOf]; omega
      | false =>
        have hsE : X = false := by rw [hgo.out]; rfl
        subst hsE
        clear hgo
        go_wp2
        go_ret
        exact ⟨rfl, hBE.out⟩
    · obtain rfl : j = N := by omega
      have hj3 : ¬ (j : Int) < (j : Int) := by omega
      have hsE : X = true := hI.out.trans hRN.out
      subst hsE
      clear hI
      go_wp2
      go_ret
      exact ⟨rfl, hB.out⟩
set_option maxRecDepth 100000 in
set_option maxHeartbeats 4000000 in
theorem allq_list (ht : Ty f 6) (hs : Slc w0 A c0 f) (hb : Below w0.heap.size w0 w)
    (hR : ∀ j, j < f.len → R j = (q j && R (j + 1))) (hRN : R f.len = true)
    (hE : ∀ j, j < f.len → ∀ W, Below w.heap.size w W → ∀ v, ElV w0 (f.drop j) v → Calls Tryz.prog 26 #[.pointer (some ⟨jb, 0, none⟩), v] W fun e w' => e = .returned (.bool (q j)) ∧ Below W.heap.size W w') :
    Calls Tryz.prog 85 #[.slice A f.len c0, .func (.func 26) #[.pointer (some ⟨jb, 0, none⟩)] #[]] w fun e w' => e = .returned (.bool (R 0)) ∧ Below w.heap.size w w' := by
  have hm := hs.1
  have hcm := hs.2.1
  unfold maxLen at hcm
  obtain ⟨N, hN⟩ : ∃ N, f.len = N := ⟨_, rfl⟩
  obtain ⟨X, hX⟩ : ∃ X, R 0 = X := ⟨_, rfl⟩
  rw [hN] at hm hRN ⊢
  rw [hX]
  have hI0 : Hid (X = R 0) := Lib.hid hX.symm
  have hB0 : Hid (Below w.heap.size w w) := Lib.hid (Below.refl _ _)
  replace hs := Lib.hid hs
  replace ht := Lib.hid ht
  replace hN := Lib.hid hN
  replace hb := Lib.hid hb
  replace hE := Lib.hid hE
  replace hR := Lib.hid hR
  replace hRN := Lib.hid hRN
  clear hX
  go_enter Tryz.func85, Tryz.ntmps85
  go_wp2
  go_loopw [9] (fun iv wr => ∃ j : Nat, j ≤ N ∧ iv = .int .i64 (j : Int) ∧ Hid (Below w.heap.size w wr) ∧ Hid (X = R j)) (fun iv _ => N - (intOf iv).toNat)
  case atStart => exact ⟨0, Nat.zero_le _, rfl, hB0, hI0⟩
  case round =>
    clear hB0 hI0
    obtain ⟨j, hj, rfl, hB, hI⟩ := hrel
    by_cases hlt : j < N
    · have hj1 : (0 : Int) ≤ (j : Int) := by omega
      have hj2 : (j : Int) < (N : Int) := by omega
      obtain ⟨B, o, rfl, hBl, hrw⟩ := hs.out.2.2 (by rw [hN.out]; omega)
      have hb2 := hb.out.trans (hB.out.mono hb.out.size)
      obtain ⟨Ax, mx, cx, e0, hv⟩ := el_list (rw_drop j ht.out (by rw [hN.out]; omega) hrw) (ty_drop j ht.out) (by rw [drop_len, hN.out]; omega)
      replace e0 := cell_below hb2 hBl e0
      have hl : B < wr.heap.size := Nat.lt_of_lt_of_le hBl hb2.size
      have hEj := hE.out j (by rw [hN.out]; exact hlt)
      have hgo := Lib.hid (hI.out.trans (hR.out j (by rw [hN.out]; exact hlt)))
      generalize q j = Q at hgo hEj
      rw [show szT 6 = 1 from rfl, Nat.mul_one] at e0
      clear hrw hI hBl hb2
      have hc := hEj _ hB.out _ hv
      clear hv hEj
      go_wp2_with fail
      refine hc.mono ?_
      rintro e w5 ⟨rfl, hb5⟩
      have hBE := Lib.hid (hB.out.trans (hb5.mono hB.out.size))
      clear hc hb5 hB hl e0
      cases Q with
      | true =>
        have hsE : Hid (X = R (j + 1)) := Lib.hid (by rw [hgo.out]; rfl)
        clear hgo
        go_wp2
        go_roundw
        case rel => exact ⟨j + 1, by omega, by go_num, hBE, hsE⟩
        case measure => simp [intOf]; omega
      | false =>
        have hsE : X = false := by rw [hgo.out]; rfl
        subst hsE
        clear hgo
        go_wp2
        go_ret
        exact ⟨rfl, hBE.out⟩
    · obtain rfl : j = N := by omega
      have hj3 : ¬ (j : Int) < (j : Int) := by omega
      have hsE : X = true := hI.out.trans hRN.out
      subst hsE
      clear hI
      go_wp2
      go_ret
      exact ⟨rfl, hB.out⟩
end
end Go.Proofs.YtmchfoedjajbdaaGreat
/-
  trees: the tables of rules, and a judge that has them. Conditions: none.
-/
set_option linter.unusedSimpArgs false
set_option linter.unusedVariables false
namespace Go.Proofs.YtmchfoedjajbdaaGreat
open Go Go.RowKit Go.ChangeMaps Go.MapKept

section
variable {w : World} {d : TypeDesc} {κ : Type} {enc : κ → Value} {l : List (κ × Value)} {b : Nat} [DecidableEq κ] {P : Program} {ops : Array Oper} {rest : List Oper} {o : Oper} {a : Act} {Q : Exit → Act → World → Prop}
theorem below_setB {z ob : Nat} {w0 : World} (h : Below z w0 w) (hz : z ≤ w0.heap.size) (ho : z ≤ ob) (o : Obj) : Below z w0 (setBlock w ob o) := by
  refine ⟨h.1, h.2, h.3, ?_, fun n hn => ?_⟩
  · have := h.size; simp [setBlock]; exact this
  · rw [setB_other (by omega)]; exact h.block n hn
end
/-- The rules of commands, and of pieces. -/
def cmdL : List (Int × Value) := [((1 : Int), .agg #[.int .i64 1792, .func (.func 62) #[] #[]]), ((2 : Int), .agg #[.int .i64 2080, .func (.func 63) #[] #[]]), ((3 : Int), .agg #[.int .i64 2048, .func (.func 64) #[] #[]]), ((4 : Int), .agg #[.int .i64 2048, .func (.func 64) #[] #[]]), ((5 : Int), .agg #[.int .i64 2048, .func (.func 65) #[] #[]]), ((6 : Int), .agg #[.int .i64 3072, .func (.func 66) #[] #[]]), ((7 : Int), .agg #[.int .i64 3072, .func (.func 66) #[] #[]]), ((8 : Int), .agg #[.int .i64 3072, .func (.func 67) #[] #[]]), ((9 : Int), .agg #[.int .i64 3072, .func (.func 68) #[] #[]]), ((10 : Int), .agg #[.int .i64 3072, .func (.func 68) #[] #[]]), ((11 : Int), .agg #[.int .i64 3776, .func (.func 69) #[] #[]]), ((12 : Int), .agg #[.int .i64 5632, .func (.func 70) #[] #[]]), ((13 : Int), .agg #[.int .i64 2112, .func (.func 71) #[] #[]])]
def pieL (jb : Nat) : List (Int × Value) := [((1 : Int), .agg #[.int .i64 1, .int .i64 15, .func (.func 72) #[.pointer (some ⟨jb, 0, none⟩)] #[]]), ((2 : Int), .agg #[.int .i64 1, .int .i64 3, .func (.func 73) #[.pointer (some ⟨jb, 0, none⟩)] #[]]), ((3 : Int), .agg #[.int .i64 8, .int .i64 3, .func (.func 74) #[.pointer (some ⟨jb, 0, none⟩)] #[]]), ((4 : Int), .agg #[.int .i64 15, .int .i64 15, .func (.func 75) #[.pointer (some ⟨jb, 0, none⟩)] #[]]), ((5 : Int), .agg #[.int .i64 16, .int .i64 15, .func (.func 76) #[.pointer (some ⟨jb, 0, none⟩)] #[]]), ((6 : Int), .agg #[.int .i64 8, .int .i64 15, .func (.func 77) #[.pointer (some ⟨jb, 0, none⟩)] #[]])]
set_option maxRecDepth 100000 in
set_option maxHeartbeats 16000000 in
theorem cmdRules_any {w : World}  : Calls Tryz.prog 42 #[] w fun e w' => ∃ cm, e = .returned (.map (some cm)) ∧ w.heap.size ≤ cm ∧ KMap w' cm (.int .i64) encI cmdL ∧ Below w.heap.size w w' := by
  have hmm : (Instr.makeMap 71 none).run Tryz.prog w = .ok (.map (some w.heap.size)) (w.alloc (.map #[] 0)) := run_makeMap _ w
  have hmf : ∀ (fn : Fn) (first cap : Array Value) (w : World), (Instr.makeFunc fn first cap).run Tryz.prog w = .ok (.func fn first cap) w := fun _ _ _ _ => rfl
  have hB0 := (Below.refl w.heap.size w).alloc (Nat.le_refl _) (.map #[] 0)
  have hm0 := KMap.new w (.int .i64) encI
  replace hB0 := Lib.hid hB0
  replace hm0 := Lib.hid hm0
  generalize w.alloc (.map #[] 0) = w1 at hB0 hm0 hmm
  obtain ⟨cm, hcm⟩ : ∃ cm, w.heap.size = cm := ⟨_, rfl⟩
  have hle2 : Hid (w.heap.size ≤ cm) := Lib.hid (Nat.le_of_eq hcm)
  rw [hcm] at hm0 hmm
  replace hcm := Lib.hid hcm
  obtain ⟨ob, hrun, hk9⟩ := hm0.out.push keyI Tryz.underlying71 Tryz.underlying3 (k := 1) (by simp [look]) (.agg #[.int .i64 1792, .func (.func 62) #[] #[]])
  have hB9 := Lib.hid (below_setB hB0.out (Nat.le_refl _) hle2.out ob)
  replace hk9 := Lib.hid hk9
  have hr1 : (Instr.mapUpdate 71 (.map (some cm)) (.int .i64 1) (.agg #[.int .i64 1792, .func (.func 62) #[] #[]])).run Tryz.prog w1 = .ok () (setBlock w1 cm ob) := hrun
  clear hm0 hB0 hrun
  generalize setBlock w1 cm ob = w2 at hk9 hB9 hr1
  have hm0 := hk9
  have hB0 := hB9
  clear hk9 hB9 ob
  obtain ⟨ob, hrun, hk9⟩ := hm0.out.push keyI Tryz.underlying71 Tryz.underlying3 (k := 2) (by simp [look]) (.agg #[.int .i64 2080, .func (.func 63) #[] #[]])
  have hB9 := Lib.hid (below_setB hB0.out (Nat.le_refl _) hle2.out ob)
  replace hk9 := Lib.hid hk9
  have hr2 : (Instr.mapUpdate 71 (.map (some cm)) (.int .i64 2) (.agg #[.int .i64 2080, .func (.func 63) #[] #[]])).run Tryz.prog w2 = .ok () (setBlock w2 cm ob) := hrun
  clear hm0 hB0 hrun
  generalize setBlock w2 cm ob = w3 at hk9 hB9 hr2
  have hm0 := hk9
  have hB0 := hB9
  clear hk9 hB9 ob
  obtain ⟨ob, hrun, hk9⟩ := hm0.out.push keyI Tryz.underlying71 Tryz.underlying3 (k := 3) (by simp [look]) (.agg #[.int .i64 2048, .func (.func 64) #[] #[]])
  have hB9 := Lib.hid (below_setB hB0.out (Nat.le_refl _) hle2.out ob)
  replace hk9 := Lib.hid hk9
  have hr3 : (Instr.mapUpdate 71 (.map (some cm)) (.int .i64 3) (.agg #[.int .i64 2048, .func (.func 64) #[] #[]])).run Tryz.prog w3 = .ok () (setBlock w3 cm ob) := hrun
  clear hm0 hB0 hrun
  generalize setBlock w3 cm ob = w4 at hk9 hB9 hr3
  have hm0 := hk9
  have hB0 := hB9
  clear hk9 hB9 ob
  obtain ⟨ob, hrun, hk9⟩ := hm0.out.push keyI Tryz.underlying71 Tryz.underlying3 (k := 4) (by simp [look]) (.agg #[.int .i64 2048, .func (.func 64) #[] #[]])
  have hB9 := Lib.hid (below_setB hB0.out (Nat.le_refl _) hle2.out ob)
  replace hk9 := Lib.hid hk9
  have hr4 : (Instr.mapUpdate 71 (.map (some cm)) (.int .i64 4) (.agg #[.int .i64 2048, .func (.func 64) #[] #[]])).run Tryz.prog w4 = .ok () (setBlock w4 cm ob) := hrun
  clear hm0 hB0 hrun
  generalize setBlock w4 cm ob = w5 at hk9 hB9 hr4
  have hm0 := hk9
  have hB0 := hB9
  clear hk9 hB9 ob
  obtain ⟨ob, hrun, hk9⟩ := hm0.out.push keyI Tryz.underlying71 Tryz.underlying3 (k := 5) (by simp [look]) (.agg #[.int .i64 2048, .func (.func 65) #[] #[]])
  have hB9 := Lib.hid (below_setB hB0.out (Nat.le_refl _) hle2.out ob)
  replace hk9 := Lib.hid hk9
  have hr5 : (Instr.mapUpdate 71 (.map (some cm)) (.int .i64 5) (.agg #[.int .i64 2048, .func (.func 65) #[] #[]])).run Tryz.prog w5 = .ok () (setBlock w5 cm ob) := hrun
  clear hm0 hB0 hrun
  generalize setBlock w5 cm ob = w6 at hk9 hB9 hr5
  have hm0 := hk9
  have hB0 := hB9
  clear hk9 hB9 ob
  obtain ⟨ob, hrun, hk9⟩ := hm0.out.push keyI Tryz.underlying71 Tryz.underlying3 (k := 6) (by simp [look]) (.agg #[.int .i64 3072, .func (.func 66) #[] #[]])
  have hB9 := Lib.hid (below_setB hB0.out (Nat.le_refl _) hle2.out ob)
  replace hk9 := Lib.hid hk9
  have hr6 : (Instr.mapUpdate 71 (.map (some cm)) (.int .i64 6) (.agg #[.int .i64 3072, .func (.func 66) #[] #[]])).run Tryz.prog w6 = .ok () (setBlock w6 cm ob) := hrun
  clear hm0 hB0 hrun
  generalize setBlock w6 cm ob = w7 at hk9 hB9 hr6
  have hm0 := hk9
  have hB0 := hB9
  clear hk9 hB9 ob
  obtain ⟨ob, hrun, hk9⟩ := hm0.out.push keyI Tryz.underlying71 Tryz.underlying3 (k := 7) (by simp [look]) (.agg #[.int .i64 3072, .func (.func 66) #[] #[]])
  have hB9 := Lib.hid (below_setB hB0.out (Nat.le_refl _) hle2.out ob)
  replace hk9 := Lib.hid hk9
  have hr7 : (Instr.mapUpdate 71 (.map (some cm)) (.int .i64 7) (.agg #[.int .i64 3072, .func (.func 66) #[] #[]])).run Tryz.prog w7 = .ok () (setBlock w7 cm ob) := hrun
  clear hm0 hB0 hrun
  generalize setBlock w7 cm ob = w8 at hk9 hB9 hr7
  have hm0 := hk9
  have hB0 := hB9
  clear hk9 hB9 ob
  obtain ⟨ob, hrun, hk9⟩ := hm0.out.push keyI Tryz.underlying71 Tryz.underlying3 (k := 8) (by simp [look]) (.agg #[.int .i64 3072, .func (.func 67) #[] #[]])
  have hB9 := Lib.hid (below_setB hB0.out (Nat.le_refl _) hle2.out ob)
  replace hk9 := Lib.hid hk9
  have hr8 : (Instr.mapUpdate 71 (.map (some cm)) (.int .i64 8) (.agg #[.int .i64 3072, .func (.func 67) #[] #[]])).run Tryz.prog w8 = .ok () (setBlock w8 cm ob) := hrun
  clear hm0 hB0 hrun
  generalize setBlock w8 cm ob = w9 at hk9 hB9 hr8
  have hm0 := hk9
  have hB0 := hB9
  clear hk9 hB9 ob
  obtain ⟨ob, hrun, hk9⟩ := hm0.out.push keyI Tryz.underlying71 Tryz.underlying3 (k := 9) (by simp [look]) (.agg #[.int .i64 3072, .func (.func 68) #[] #[]])
  have hB9 := Lib.hid (below_setB hB0.out (Nat.le_refl _) hle2.out ob)
  replace hk9 := Lib.hid hk9
  have hr9 : (Instr.mapUpdate 71 (.map (some cm)) (.int .i64 9) (.agg #[.int .i64 3072, .func (.func 68) #[] #[]])).run Tryz.prog w9 = .ok () (setBlock w9 cm ob) := hrun
  clear hm0 hB0 hrun
  generalize setBlock w9 cm ob = w10 at hk9 hB9 hr9
  have hm0 := hk9
  have hB0 := hB9
  clear hk9 hB9 ob
  obtain ⟨ob, hrun, hk9⟩ := hm0.out.push keyI Tryz.underlying71 Tryz.underlying3 (k := 10) (by simp [look]) (.agg #[.int .i64 3072, .func (.func 68) #[] #[]])
  have hB9 := Lib.hid (below_setB hB0.out (Nat.le_refl _) hle2.out ob)
  replace hk9 := Lib.hid hk9
  have hr10 : (Instr.mapUpdate 71 (.map (some cm)) (.int .i64 10) (.agg #[.int .i64 3072, .func (.func 68) #[] #[]])).run Tryz.prog w10 = .ok () (setBlock w10 cm ob) := hrun
  clear hm0 hB0 hrun
  generalize setBlock w10 cm ob = w11 at hk9 hB9 hr10
  have hm0 := hk9
  have hB0 := hB9
  clear hk9 hB9 ob
  obtain ⟨ob, hrun, hk9⟩ := hm0.out.push keyI Tryz.underlying71 Tryz.underlying3 (k := 11) (by simp [look]) (.agg #[.int .i64 3776, .func (.func 69) #[] #[]])
  have hB9 := Lib.hid (below_setB hB0.out (Nat.le_refl _) hle2.out ob)
  replace hk9 := Lib.hid hk9
  have hr11 : (Instr.mapUpdate 71 (.map (some cm)) (.int .i64 11) (.agg #[.int .i64 3776, .func (.func 69) #[] #[]])).run Tryz.prog w11 = .ok () (setBlock w11 cm ob) := hrun
  clear hm0 hB0 hrun
  generalize setBlock w11 cm ob = w12 at hk9 hB9 hr11
  have hm0 := hk9
  have hB0 := hB9
  clear hk9 hB9 ob
  obtain ⟨ob, hrun, hk9⟩ := hm0.out.push keyI Tryz.underlying71 Tryz.underlying3 (k := 12) (by simp [look]) (.agg #[.int .i64 5632, .func (.func 70) #[] #[]])
  have hB9 := Lib.hid (below_setB hB0.out (Nat.le_refl _) hle2.out ob)
  replace hk9 := Lib.hid hk9
  have hr12 : (Instr.mapUpdate 71 (.map (some cm)) (.int .i64 12) (.agg #[.int .i64 5632, .func (.func 70) #[] #[]])).run Tryz.prog w12 = .ok () (setBlock w12 cm ob) := hrun
  clear hm0 hB0 hrun
  generalize setBlock w12 cm ob = w13 at hk9 hB9 hr12
  have hm0 := hk9
  have hB0 := hB9
  clear hk9 hB9 ob
  obtain ⟨ob, hrun, hk9⟩ := hm0.out.push keyI Tryz.underlying71 Tryz.underlying3 (k := 13) (by simp [look]) (.agg #[.int .i64 2112, .func (.func 71) #[] #[]])
  have hB9 := Lib.hid (below_setB hB0.out (Nat.le_refl _) hle2.out ob)
  replace hk9 := Lib.hid hk9
  have hr13 : (Instr.mapUpdate 71 (.map (some cm)) (.int .i64 13) (.agg #[.int .i64 2112, .func (.func 71) #[] #[]])).run Tryz.prog w13 = .ok () (setBlock w13 cm ob) := hrun
  clear hm0 hB0 hrun
  generalize setBlock w13 cm ob = w14 at hk9 hB9 hr13
  have hm0 := hk9
  have hB0 := hB9
  clear hk9 hB9 ob
  go_enter Tryz.func42, Tryz.ntmps42
  go_wp2
  go_ret
  exact ⟨cm, rfl, hle2.out, hm0.out, hB0.out⟩
set_option maxRecDepth 100000 in
set_option maxHeartbeats 16000000 in
theorem pieRules_any {w : World} {jb : Nat} : Calls Tryz.prog 43 #[.pointer (some ⟨jb, 0, none⟩)] w fun e w' => ∃ cm, e = .returned (.map (some cm)) ∧ w.heap.size ≤ cm ∧ KMap w' cm (.int .i64) encI (pieL jb) ∧ Below w.heap.size w w' := by
  have hmm : (Instr.makeMap 73 none).run Tryz.prog w = .ok (.map (some w.heap.size)) (w.alloc (.map #[] 0)) := run_makeMap _ w
  have hmf : ∀ (fn : Fn) (first cap : Array Value) (w : World), (Instr.makeFunc fn first cap).run Tryz.prog w = .ok (.func fn first cap) w := fun _ _ _ _ => rfl
  have hB0 := (Below.refl w.heap.size w).alloc (Nat.le_refl _) (.map #[] 0)
  have hm0 := KMap.new w (.int .i64) encI
  replace hB0 := Lib.hid hB0
  replace hm0 := Lib.hid hm0
  generalize w.alloc (.map #[] 0) = w1 at hB0 hm0 hmm
  obtain ⟨cm, hcm⟩ : ∃ cm, w.heap.size = cm := ⟨_, rfl⟩
  have hle2 : Hid (w.heap.size ≤ cm) := Lib.hid (Nat.le_of_eq hcm)
  rw [hcm] at hm0 hmm
  replace hcm := Lib.hid hcm
  obtain ⟨ob, hrun, hk9⟩ := hm0.out.push keyI Tryz.underlying73 Tryz.underlying3 (k := 1) (by simp [look]) (.agg #[.int .i64 1, .int .i64 15, .func (.func 72) #[.pointer (some ⟨jb, 0, none⟩)] #[]])
  have hB9 := Lib.hid (below_setB hB0.out (Nat.le_refl _) hle2.out ob)
  replace hk9 := Lib.hid hk9
  have hr1 : (Instr.mapUpdate 73 (.map (some cm)) (.int .i64 1) (.agg #[.int .i64 1, .int .i64 15, .func (.func 72) #[.pointer (some ⟨jb, 0, none⟩)] #[]])).run Tryz.prog w1 = .ok () (setBlock w1 cm ob) := hrun
  clear hm0 hB0 hrun
  generalize setBlock w1 cm ob = w2 at hk9 hB9 hr1
  have hm0 := hk9
  have hB0 := hB9
  clear hk9 hB9 ob
  obtain ⟨ob, hrun, hk9⟩ := hm0.out.push keyI Tryz.underlying73 Tryz.underlying3 (k := 2) (by simp [look]) (.agg #[.int .i64 1, .int .i64 3, .func (.func 73) #[.pointer (some ⟨jb, 0, none⟩)] #[]])
  have hB9 := Lib.hid (below_setB hB0.out (Nat.le_refl _) hle2.out ob)
  replace hk9 := Lib.hid hk9
  have hr2 : (Instr.mapUpdate 73 (.map (some cm)) (.int .i64 2) (.agg #[.int .i64 1, .int .i64 3, .func (.func 73) #[.pointer (some ⟨jb, 0, none⟩)] #[]])).run Tryz.prog w2 = .ok () (setBlock w2 cm ob) := hrun
  clear hm0 hB0 hrun
  generalize setBlock w2 cm ob = w3 at hk9 hB9 hr2
  have hm0 := hk9
  have hB0 := hB9
  clear hk9 hB9 ob
  obtain ⟨ob, hrun, hk9⟩ := hm0.out.push keyI Tryz.underlying73 Tryz.underlying3 (k := 3) (by simp [look]) (.agg #[.int .i64 8, .int .i64 3, .func (.func 74) #[.pointer (some ⟨jb, 0, none⟩)] #[]])
  have hB9 := Lib.hid (below_setB hB0.out (Nat.le_refl _) hle2.out ob)
  replace hk9 := Lib.hid hk9
  have hr3 : (Instr.mapUpdate 73 (.map (some cm)) (.int .i64 3) (.agg #[.int .i64 8, .int .i64 3, .func (.func 74) #[.pointer (some ⟨jb, 0, none⟩)] #[]])).run Tryz.prog w3 = .ok () (setBlock w3 cm ob) := hrun
  clear hm0 hB0 hrun
  generalize setBlock w3 cm ob = w4 at hk9 hB9 hr3
  have hm0 := hk9
  have hB0 := hB9
  clear hk9 hB9 ob
  obtain ⟨ob, hrun, hk9⟩ := hm0.out.push keyI Tryz.underlying73 Tryz.underlying3 (k := 4) (by simp [look]) (.agg #[.int .i64 15, .int .i64 15, .func (.func 75) #[.pointer (some ⟨jb, 0, none⟩)] #[]])
  have hB9 := Lib.hid (below_setB hB0.out (Nat.le_refl _) hle2.out ob)
  replace hk9 := Lib.hid hk9
  have hr4 : (Instr.mapUpdate 73 (.map (some cm)) (.int .i64 4) (.agg #[.int .i64 15, .int .i64 15, .func (.func 75) #[.pointer (some ⟨jb, 0, none⟩)] #[]])).run Tryz.prog w4 = .ok () (setBlock w4 cm ob) := hrun
  clear hm0 hB0 hrun
  generalize setBlock w4 cm ob = w5 at hk9 hB9 hr4
  have hm0 := hk9
  have hB0 := hB9
  clear hk9 hB9 ob
  obtain ⟨ob, hrun, hk9⟩ := hm0.out.push keyI Tryz.underlying73 Tryz.underlying3 (k := 5) (by simp [look]) (.agg #[.int .i64 16, .int .i64 15, .func (.func 76) #[.pointer (some ⟨jb, 0, none⟩)] #[]])
  have hB9 := Lib.hid (below_setB hB0.out (Nat.le_refl _) hle2.out ob)
  replace hk9 := Lib.hid hk9
  have hr5 : (Instr.mapUpdate 73 (.map (some cm)) (.int .i64 5) (.agg #[.int .i64 16, .int .i64 15, .func (.func 76) #[.pointer (some ⟨jb, 0, none⟩)] #[]])).run Tryz.prog w5 = .ok () (setBlock w5 cm ob) := hrun
  clear hm0 hB0 hrun
  generalize setBlock w5 cm ob = w6 at hk9 hB9 hr5
  have hm0 := hk9
  have hB0 := hB9
  clear hk9 hB9 ob
  obtain ⟨ob, hrun, hk9⟩ := hm0.out.push keyI Tryz.underlying73 Tryz.underlying3 (k := 6) (by simp [look]) (.agg #[.int .i64 8, .int .i64 15, .func (.func 77) #[.pointer (some ⟨jb, 0, none⟩)] #[]])
  have hB9 := Lib.hid (below_setB hB0.out (Nat.le_refl _) hle2.out ob)
  replace hk9 := Lib.hid hk9
  have hr6 : (Instr.mapUpdate 73 (.map (some cm)) (.int .i64 6) (.agg #[.int .i64 8, .int .i64 15, .func (.func 77) #[.pointer (some ⟨jb, 0, none⟩)] #[]])).run Tryz.prog w6 = .ok () (setBlock w6 cm ob) := hrun
  clear hm0 hB0 hrun
  generalize setBlock w6 cm ob = w7 at hk9 hB9 hr6
  have hm0 := hk9
  have hB0 := hB9
  clear hk9 hB9 ob
  go_enter Tryz.func43, Tryz.ntmps43
  go_wp2
  go_ret
  exact ⟨cm, rfl, hle2.out, hm0.out, hB0.out⟩
end Go.Proofs.YtmchfoedjajbdaaGreat
/-
  trees: a judge in memory. Conditions: none.
-/
set_option linter.unusedSimpArgs false
set_option linter.unusedVariables false
namespace Go.Proofs.YtmchfoedjajbdaaGreat
open Go Go.RowKit Go.ChangeMaps Go.MapKept

/-- A judge around whom so many Commands stand. -/
structure Jd (w0 w : World) (jb cm pm a : Nat) : Prop where
  fr : Below w0.heap.size w0 w
  lo : w0.heap.size ≤ jb
  blk : Blk w jb [.map (some cm), .map (some pm), .int .i64 (a : Int)] 75
  cmd : KMap w cm (.int .i64) encI cmdL
  pie : KMap w pm (.int .i64) encI (pieL jb)
section
variable {w0 w w' : World} {jb cm pm a : Nat}
theorem Jd.below (h : Jd w0 w jb cm pm a) (k : Below w.heap.size w w') : Jd w0 w' jb cm pm a :=
  ⟨h.fr.trans (k.mono h.fr.size), h.lo, (k.block jb h.blk.lt).trans h.blk, h.cmd.keep (k.block cm h.cmd.lt), h.pie.keep (k.block pm h.pie.lt)⟩
theorem Jd.at (h : Jd w0 w jb cm pm a) (a' : Nat) : Jd w0 (w.setCell ⟨jb, 2, none⟩ (.int .i64 (a' : Int))) jb cm pm a' := by
  have hS := Stp.set (S := fun b => b = jb) (w := w) (b := jb) rfl 2 (.int .i64 (a' : Int))
  refine ⟨h.fr.setCell h.lo _, h.lo, h.blk.set 2 _, h.cmd.keep (hS.block cm h.cmd.lt ?_), h.pie.keep (hS.block pm h.pie.lt ?_)⟩
  · intro e; have e2 : cm = jb := e; exact h.cmd.no_cells (by rw [e2]; exact h.blk)
  · intro e; have e2 : pm = jb := e; exact h.pie.no_cells (by rw [e2]; exact h.blk)
set_option maxRecDepth 100000 in
set_option maxHeartbeats 4000000 in
theorem newJudge_any : Calls Tryz.prog 25 #[] w fun e w' => ∃ jb cm pm, e = .returned (.pointer (some ⟨jb, 0, none⟩)) ∧ Jd w w' jb cm pm 0 := by
  have hc := cmdRules_any (w := w)
  go_enter Tryz.func25, Tryz.ntmps25
  go_wp2_with fail
  refine hc.mono ?_
  rintro e w1 ⟨cm, rfl, hcm, hkc, hB1⟩
  have hbk := Blk.new w1 [.map (some cm), .map none, .int .i64 0] 75
  have hB2 := (Below.refl w1.heap.size w1).alloc (Nat.le_refl _) (.cells #[.map (some cm), .map none, .int .i64 0] 75)
  have hcp := pieRules_any (jb := w1.heap.size) (w := w1.alloc (.cells #[.map (some cm), .map none, .int .i64 0] 75))
  replace hkc := Lib.hid hkc
  replace hB1 := Lib.hid hB1
  replace hcm := Lib.hid hcm
  clear hc
  go_upto_region 2 with fail
  have hkc2 := Lib.hid (hkc.out.keep (hB2.block cm hkc.out.lt))
  have hle := Lib.hid hB1.out.size
  have hB3 := Lib.hid (hB1.out.trans (hB2.mono hB1.out.size))
  clear hkc hB1 hB2
  generalize w1.alloc (.cells #[.map (some cm), .map none, .int .i64 0] 75) = w2 at hbk hcp hkc2 hB3 ⊢
  generalize w1.heap.size = jb at hbk hcp hle ⊢
  have yl := hbk.lt
  have hcp2 := hcp
  clear hcp
  go_wp2_with fail
  refine hcp2.mono ?_
  rintro e w3 ⟨pm, rfl, hpm, hkp, hB4⟩
  have hbk3 : Blk w3 jb _ _ := (hB4.block jb yl).trans hbk
  have hkc3 := hkc2.out.keep (hB4.block cm hkc2.out.lt)
  have hB5 := hB3.out.trans (hB4.mono hB3.out.size)
  have hS := Stp.set (S := fun b => b = jb) (w := w3) (b := jb) rfl 1 (.map (some pm))
  have hfin : Jd w (w3.setCell ⟨jb, 1, none⟩ (.map (some pm))) jb cm pm 0 := by
    refine ⟨hB5.setCell hle.out _, hle.out, hbk3.set 1 _, hkc3.keep (hS.block cm hkc3.lt ?_), hkp.keep (hS.block pm hkp.lt ?_)⟩
    · intro e; have e2 : cm = jb := e; exact hkc3.no_cells (by rw [e2]; exact hbk3)
    · intro e; have e2 : pm = jb := e; exact hkp.no_cells (by rw [e2]; exact hbk3)
  have y1 := hbk3.cell (i := 1) rfl
  have yl3 := hbk3.lt
  have yf := hbk3.frozen 1
  replace hfin := Lib.hid hfin
  clear hcp2 hpm hkp hB4 hkc3 hB5 hS hbk3 hbk yl hkc2 hB3 hle
  go_wp2
  refine bodyPost_ret (v := .pointer (some ⟨jb, 0, none⟩)) (by simp [results, Tryz.results25, go_sem]) rfl ?_
  exact ⟨jb, cm, pm, rfl, hfin.out⟩
end
end Go.Proofs.YtmchfoedjajbdaaGreat
/-
  trees: a judge's question of a piece, whatever rule its kind has. Conditions: the rule's function is one that has a contract.
-/
set_option linter.unusedSimpArgs false
set_option linter.unusedVariables false
namespace Go.Proofs.YtmchfoedjajbdaaGreat
open Go Go.RowKit Go.ChangeMaps Go.MapKept

section
variable {w0 w : World} {jb cm pm a : Nat}
def pcV (k : Int) (t : ByteArray) (p : Int) (c : Bool) (K Y : Value) : Value := .agg #[.int .i64 k, .string t, .int .i64 p, .bool c, K, Y]
set_option maxRecDepth 100000 in
set_option maxHeartbeats 4000000 in
theorem piece_gen {FN : FuncId} {k p fl pl m : Int} {t : ByteArray} {c : Bool} {AK AY : Option Addr} {mK cK mY cY : Nat} {qv : Bool} (he : ∀ args w, (callFunc FN args).run Tryz.prog w = .ok (.enter FN args) w) (hJ : Jd w0 w jb cm pm a) (h1 : mK ≤ 4194304) (h2 : mY ≤ 4194304)
    (hlk : look (pieL jb) k = some (.agg #[.int .i64 fl, .int .i64 pl, .func (.func FN) #[.pointer (some ⟨jb, 0, none⟩)] #[]]))
    (hmay : bits BinOp.and .i64 m pl ≠ 0 → bits BinOp.andNot .i64 (pfP t p c mK mY) fl = 0 → ∀ W, Below w.heap.size w W → Calls Tryz.prog FN #[.pointer (some ⟨jb, 0, none⟩), pcV k t p c (.slice AK mK cK) (.slice AY mY cY), .int .i64 m] W fun e w' => e = .returned (.bool qv) ∧ Below W.heap.size W w') :
    Calls Tryz.prog 133 #[.pointer (some ⟨jb, 0, none⟩), pcV k t p c (.slice AK mK cK) (.slice AY mY cY), .int .i64 m] w fun e w' => e = .returned (.bool (decide (bits BinOp.and .i64 m pl ≠ 0) && (decide (bits BinOp.andNot .i64 (pfP t p c mK mY) fl = 0) && qv))) ∧ Below w.heap.size w w' := by
  obtain ⟨x, hx⟩ : ∃ x, (decide (bits BinOp.and .i64 m pl ≠ 0) && (decide (bits BinOp.andNot .i64 (pfP t p c mK mY) fl = 0) && qv)) = x := ⟨_, rfl⟩
  rw [hx]
  have hrun : ∀ W, KMap W pm (.int .i64) encI (pieL jb) → (Instr.lookup 73 (.map (some pm)) (.int .i64 k) true).run Tryz.prog W = .ok (.tuple #[.agg #[.int .i64 fl, .int .i64 pl, .func (.func FN) #[.pointer (some ⟨jb, 0, none⟩)] #[]], .bool true]) W := fun W hk => by
    have h := hk.find keyI Tryz.underlying73 Tryz.underlying3 (Tryz.zeroValue96 W) true k
    rw [hlk] at h
    exact h
  unfold pcV at hmay ⊢
  have hf := fun W => pieceFields_any (w := W) (k := k) (t := t) (p := p) (c := c) (AK := AK) (AY := AY) (cK := cK) (cY := cY) h1 h2
  replace hmay := Lib.hid hmay
  replace hf := Lib.hid hf
  replace hx := Lib.hid hx
  replace hJ := Lib.hid hJ
  replace hrun := Lib.hid hrun
  clear hlk h1 h2
  go_enter Tryz.func133, Tryz.ntmps133
  go_upto_region 1 with fail
  have hbk := Blk.new w [.int .i64 k, .string t, .int .i64 p, .bool c, .slice AK mK cK, .slice AY mY cY] 66
  have hB1 := (Below.refl w.heap.size w).alloc (Nat.le_refl _) (.cells #[.int .i64 k, .string t, .int .i64 p, .bool c, .slice AK mK cK, .slice AY mY cY] 66)
  have hJ1 := hJ.out.below hB1
  replace hB1 := Lib.hid hB1
  generalize w.alloc (.cells #[.int .i64 k, .string t, .int .i64 p, .bool c, .slice AK mK cK, .slice AY mY cY] 66) = w1 at hbk hB1 hJ1 ⊢
  generalize w.heap.size = z at hbk ⊢
  have z0 := hbk.cell (i := 0) rfl
  have zl := hbk.lt
  have j1 := hJ1.blk.cell (i := 1) rfl
  have jl := hJ1.blk.lt
  have hr1 := hrun.out w1.drew (hJ1.pie.keep rfl)
  have hr2 := fun o => hrun.out ((w1.alloc o).drew) (hJ1.pie.keep (((Below.refl _ w1).alloc (Nat.le_refl _) o).block pm hJ1.pie.lt))
  replace hbk := Lib.hid hbk
  replace hJ1 := Lib.hid hJ1
  go_cut [7, 8] from 9 to 19 (fun t7 t8 wx => ∃ zb : Nat, t7 = .pointer (some ⟨zb, 0, none⟩) ∧ t8 = .bool true ∧ Hid (Below w1.heap.size w1 wx ∧ Blk wx zb [.int .i64 fl, .int .i64 pl, .func (.func FN) #[.pointer (some ⟨jb, 0, none⟩)] #[]] 96))
  case first =>
    go_region_held3 (fun w' => w'.cell? ⟨z, 0, none⟩ = some (.int .i64 k) ∧ w'.cell? ⟨jb, 1, none⟩ = some (.map (some pm)) ∧ (Instr.lookup 73 (.map (some pm)) (.int .i64 k) true).run Tryz.prog w' = .ok (.tuple #[.agg #[.int .i64 fl, .int .i64 pl, .func (.func FN) #[.pointer (some ⟨jb, 0, none⟩)] #[]], .bool true]) w')
      (first | go_keep) (fail)
    all_goals (go_wp2_with fail)
    all_goals go_meet
    all_goals exact ⟨w1.heap.size, rfl, rfl, Lib.hid ⟨((Below.refl _ w1).alloc (Nat.le_refl _) _).trans (drewN_below _ 1 |>.mono (by rw [World.size_alloc]; omega)), (Blk.new w1 [.int .i64 fl, .int .i64 pl, .func (.func FN) #[.pointer (some ⟨jb, 0, none⟩)] #[]] _)⟩⟩
  case rest =>
    obtain ⟨zb, rfl, rfl, hX⟩ := hcut
    obtain ⟨hBc, hbz⟩ := hX.out
    have hbk2 : Blk wc z _ _ := (hBc.block z zl).trans hbk.out
    have hB2 := Lib.hid (hB1.out.trans (hBc.mono hB1.out.size))
    clear hX hBc z0 zl j1 jl hr1 hr2 hbk hJ1 hB1 hrun hJ
    have hcells := fun W (hb : Below wc.heap.size wc W) => (fun (h1 : Blk W z _ _) (h2 : Blk W zb _ _) => (⟨h1.cell (i := 0) rfl, h1.cell (i := 1) rfl, h1.cell (i := 2) rfl, h1.cell (i := 3) rfl, h1.cell (i := 4) rfl, h1.cell (i := 5) rfl, h2.cell (i := 0) rfl, h2.cell (i := 1) rfl, h2.cell (i := 2) rfl⟩ : W.cell? ⟨z, 0, none⟩ = some (.int .i64 k) ∧ W.cell? ⟨z, 1, none⟩ = some (.string t) ∧ W.cell? ⟨z, 2, none⟩ = some (.int .i64 p) ∧ W.cell? ⟨z, 3, none⟩ = some (.bool c) ∧ W.cell? ⟨z, 4, none⟩ = some (.slice AK mK cK) ∧ W.cell? ⟨z, 5, none⟩ = some (.slice AY mY cY) ∧ W.cell? ⟨zb, 0, none⟩ = some (.int .i64 fl) ∧ W.cell? ⟨zb, 1, none⟩ = some (.int .i64 pl) ∧ W.cell? ⟨zb, 2, none⟩ = some (.func (.func FN) #[.pointer (some ⟨jb, 0, none⟩)] #[]))) ((hb.block z hbk2.lt).trans hbk2) ((hb.block zb hbz.lt).trans hbz)
    replace hcells := Lib.hid hcells
    clear hbk2 hbz
    by_cases hu : bits BinOp.and .i64 m pl = 0
    · obtain rfl : false = x := by rw [← hx.out, hu]; rfl
      have g1 : (bits BinOp.and .i64 m pl != 0) = false := by rw [hu]; rfl
      obtain ⟨z0, z1, z2, z3, z4, z5, y0, y1, y2⟩ := hcells.out wc (Below.refl _ _)
      clear hmay hx hu hcells hf
      go_wp2_with fail
      go_quiet (fail)
      go_wp2
      go_ret
      exact ⟨rfl, hB2.out.trans ((drewN_below _ _).mono hB2.out.size)⟩
    · have g1 : (bits BinOp.and .i64 m pl != 0) = true := by simpa using hu
      obtain ⟨v, hv⟩ : ∃ v, pfP t p c mK mY = v := ⟨_, rfl⟩
      rw [hv] at hf hmay hx
      clear hv
      by_cases hz : bits BinOp.andNot .i64 v fl = 0
      · have g2 : (bits BinOp.andNot .i64 v fl == 0) = true := by simpa using hz
        obtain rfl : qv = x := by rw [← hx.out]; simp [hu, hz]
        have hm2 := Lib.hid (hmay.out hu hz)
        obtain ⟨z0, z1, z2, z3, z4, z5, y0, y1, y2⟩ := hcells.out wc (Below.refl _ _)
        clear hmay hx hu hz
        go_wp2_with fail
        go_region_held3 (fun W => W.cell? ⟨z, 0, none⟩ = some (.int .i64 k) ∧ W.cell? ⟨z, 1, none⟩ = some (.string t) ∧ W.cell? ⟨z, 2, none⟩ = some (.int .i64 p) ∧ W.cell? ⟨z, 3, none⟩ = some (.bool c) ∧ W.cell? ⟨z, 4, none⟩ = some (.slice AK mK cK) ∧ W.cell? ⟨z, 5, none⟩ = some (.slice AY mY cY) ∧ W.cell? ⟨zb, 0, none⟩ = some (.int .i64 fl) ∧ W.cell? ⟨zb, 1, none⟩ = some (.int .i64 pl) ∧ W.cell? ⟨zb, 2, none⟩ = some (.func (.func FN) #[.pointer (some ⟨jb, 0, none⟩)] #[]))
          (first | go_keep | exact hk)
          (first | (go_at_call 148; refine (hf.out _).mono ?_; rintro e w5 ⟨rfl, hb5⟩; have hB5 := (drewN_below wc 1).trans hb5; have hk := hcells.out w5 hB5) | (go_at_fn FN; refine (hm2.out w5 (hB2.out.trans (hB5.mono hB2.out.size))).mono ?_; rintro e w6 ⟨rfl, hb6⟩; have hB6 := hB5.trans (hb6.mono hB5.size); have hk := hcells.out w6 hB6))
        go_wp2
        go_ret
        exact ⟨rfl, hB2.out.trans (hB6.mono hB2.out.size)⟩
      · have g2 : (bits BinOp.andNot .i64 v fl == 0) = false := by simpa using hz
        obtain rfl : false = x := by rw [← hx.out]; simp [hz]
        clear hmay hx hu hz
        go_wp2_with fail
        have hS0 := drewN_below wc 1
        refine wp_region_held_drew (S := fun W => Below wc.heap.size wc W) (by kernel_rfl) hS0 (fun _ => ?_)
        refine wpAnyH_take (i := 0) (oi := { dst := some 19, op := Op.move (Operand.tmp 8), type := 4, pos := "check.go:103", after := #[], guard := none }) (v := .bool true) rfl (by kernel_rfl) (by kernel_rfl) (by kernel_rfl) (fun _ _ _ h => h) (Or.inl ⟨by kernel_rfl, ?_⟩) hS0 ?_
        · intro W hW
          clear hW
          go_simp
        try simp only [Act.put, List.setIfInBounds_toArray, List.set_cons_zero, List.set_cons_succ]
        refine wpAnyH_take (i := 1) (oi := { dst := some 20, op := Op.move (Operand.tmp 19), type := 4, pos := "check.go:103", after := #[{ on := 0, ground := Ground.data }], guard := none }) (v := .bool true) rfl (by kernel_rfl) (by kernel_rfl) (by kernel_rfl) (fun _ _ _ h => h) (Or.inl ⟨by kernel_rfl, ?_⟩) hS0 ?_
        · intro W hW
          clear hW
          go_simp
        try simp only [Act.put, List.setIfInBounds_toArray, List.set_cons_zero, List.set_cons_succ]
        refine wpAnyH_take (i := 2) (oi := { dst := some 21, op := Op.move (Operand.tmp 2), type := 3, pos := "check.go:103", after := #[{ on := 1, ground := Ground.guard }], guard := some (1, true) }) (v := .int .i64 m) rfl (by kernel_rfl) (by kernel_rfl) (by kernel_rfl) (fun _ _ _ h => h) (Or.inl ⟨by kernel_rfl, ?_⟩) hS0 ?_
        · intro W hW
          clear hW
          go_simp
        try simp only [Act.put, List.setIfInBounds_toArray, List.set_cons_zero, List.set_cons_succ]
        refine wpAnyH_take (i := 3) (oi := { dst := some 22, op := Op.fieldAddr 96 (Operand.tmp 7) 1, type := 0, pos := "check.go:103", after := #[{ on := 1, ground := Ground.guard }], guard := some (1, true) }) (v := .pointer (some ⟨zb, 1, none⟩)) rfl (by kernel_rfl) (by kernel_rfl) (by kernel_rfl) (fun _ _ _ h => h) (Or.inl ⟨by kernel_rfl, ?_⟩) hS0 ?_
        · intro W hW
          clear hW
          go_simp
        try simp only [Act.put, List.setIfInBounds_toArray, List.set_cons_zero, List.set_cons_succ]
        refine wpAnyH_take (i := 4) (oi := { dst := some 23, op := Op.load 3 (Operand.tmp 22), type := 3, pos := "check.go:103", after := #[{ on := 3, ground := Ground.data }, { on := 1, ground := Ground.guard }], guard := some (1, true) }) (v := .int .i64 pl) rfl (by kernel_rfl) (by kernel_rfl) (by kernel_rfl) (fun _ _ _ h => h) (Or.inl ⟨by kernel_rfl, ?_⟩) hS0 ?_
        · intro W hW
          obtain ⟨z0, z1, z2, z3, z4, z5, y0, y1, y2⟩ := hcells.out W hW
          clear hW
          go_simp
        try simp only [Act.put, List.setIfInBounds_toArray, List.set_cons_zero, List.set_cons_succ]
        refine wpAnyH_take (i := 5) (oi := { dst := some 24, op := Op.binOp BinOp.and 3 (Operand.tmp 21) (Operand.tmp 23) 3, type := 3, pos := "check.go:103", after := #[{ on := 2, ground := Ground.data }, { on := 4, ground := Ground.data }, { on := 1, ground := Ground.guard }], guard := some (1, true) }) (v := .int .i64 (bits BinOp.and .i64 m pl)) rfl (by kernel_rfl) (by kernel_rfl) (by kernel_rfl) (fun _ _ _ h => h) (Or.inl ⟨by kernel_rfl, ?_⟩) hS0 ?_
        · intro W hW
          clear hW
          go_simp
        try simp only [Act.put, List.setIfInBounds_toArray, List.set_cons_zero, List.set_cons_succ]
        refine wpAnyH_take (i := 6) (oi := { dst := some 25, op := Op.binOp BinOp.neq 3 (Operand.tmp 24) (Operand.const (Value.int IntKind.i64 0)) 3, type := 4, pos := "check.go:103", after := #[{ on := 5, ground := Ground.data }, { on := 1, ground := Ground.guard }], guard := some (1, true) }) (v := .bool true) rfl (by kernel_rfl) (by kernel_rfl) (by kernel_rfl) (fun _ _ _ h => h) (Or.inl ⟨by kernel_rfl, ?_⟩) hS0 ?_
        · intro W hW
          clear hW
          go_simp
        try simp only [Act.put, List.setIfInBounds_toArray, List.set_cons_zero, List.set_cons_succ]
        refine wpAnyH_take (i := 7) (oi := { dst := some 26, op := Op.pick (Operand.tmp 20) (Operand.tmp 25) (Operand.const (Value.bool false)), type := 4, pos := "check.go:103", after := #[{ on := 1, ground := Ground.data }, { on := 6, ground := Ground.data }], guard := none }) (v := .bool true) rfl (by kernel_rfl) (by kernel_rfl) (by kernel_rfl) (fun _ _ _ h => h) (Or.inl ⟨by kernel_rfl, ?_⟩) hS0 ?_
        · intro W hW
          clear hW
          go_simp
        try simp only [Act.put, List.setIfInBounds_toArray, List.set_cons_zero, List.set_cons_succ]
        refine wpAnyH_take (i := 8) (oi := { dst := some 27, op := Op.move (Operand.tmp 26), type := 4, pos := "check.go:103", after := #[{ on := 7, ground := Ground.data }, { on := 1, ground := Ground.chain }], guard := none }) (v := .bool true) rfl (by kernel_rfl) (by kernel_rfl) (by kernel_rfl) (fun _ _ _ h => h) (Or.inl ⟨by kernel_rfl, ?_⟩) hS0 ?_
        · intro W hW
          clear hW
          go_simp
        try simp only [Act.put, List.setIfInBounds_toArray, List.set_cons_zero, List.set_cons_succ]
        refine wpAnyH_take (i := 9) (oi := { dst := some 28, op := Op.load 66 (Operand.tmp 4), type := 66, pos := "check.go:103", after := #[{ on := 8, ground := Ground.guard }], guard := some (8, true) }) (v := .agg #[.int .i64 k, .string t, .int .i64 p, .bool c, .slice AK mK cK, .slice AY mY cY]) rfl (by kernel_rfl) (by kernel_rfl) (by kernel_rfl) (fun _ _ _ h => h) (Or.inl ⟨by kernel_rfl, ?_⟩) hS0 ?_
        · intro W hW
          obtain ⟨z0, z1, z2, z3, z4, z5, y0, y1, y2⟩ := hcells.out W hW
          clear hW
          go_simp
        try simp only [Act.put, List.setIfInBounds_toArray, List.set_cons_zero, List.set_cons_succ]
        refine wpAnyH_take (i := 11) (oi := { dst := some 30, op := Op.fieldAddr 96 (Operand.tmp 7) 0, type := 0, pos := "check.go:103", after := #[{ on := 8, ground := Ground.guard }], guard := some (8, true) }) (v := .pointer (some ⟨zb, 0, none⟩)) rfl (by kernel_rfl) (by kernel_rfl) (by kernel_rfl) (fun _ _ _ h => h) (Or.inl ⟨by kernel_rfl, ?_⟩) hS0 ?_
        · intro W hW
          clear hW
          go_simp
        try simp only [Act.put, List.setIfInBounds_toArray, List.set_cons_zero, List.set_cons_succ]
        refine wpAnyH_take (i := 12) (oi := { dst := some 31, op := Op.load 3 (Operand.tmp 30), type := 3, pos := "check.go:103", after := #[{ on := 11, ground := Ground.data }, { on := 8, ground := Ground.guard }], guard := some (8, true) }) (v := .int .i64 fl) rfl (by kernel_rfl) (by kernel_rfl) (by kernel_rfl) (fun _ _ _ h => h) (Or.inl ⟨by kernel_rfl, ?_⟩) hS0 ?_
        · intro W hW
          obtain ⟨z0, z1, z2, z3, z4, z5, y0, y1, y2⟩ := hcells.out W hW
          clear hW
          go_simp
        try simp only [Act.put, List.setIfInBounds_toArray, List.set_cons_zero, List.set_cons_succ]
        refine wpAnyH_ready (rs := [10]) (by kernel_rfl) (by simp) ?_
        refine AllReadyH.cons (o := { dst := some 29, op := Op.call { callee := Callee.value (Operand.func 148), args := #[Operand.tmp 28], argTypes := #[66] }, type := 3, pos := "check.go:103", after := #[{ on := 9, ground := Ground.data }, { on := 8, ground := Ground.chain }, { on := 8, ground := Ground.guard }], guard := some (8, true) }) rfl (fun K hK => ?_) AllReadyH.nil
        go_simp
        (go_at_call 148; refine (hf.out _).mono ?_; rintro e w5 ⟨rfl, hb5⟩; have hS1 := hS0.trans (hb5.mono hS0.size))
        go_wp2_with fail
        refine hK.out _ _ hS1 (fun _ => ?_)
        clear hK K
        try simp only [Act.put, List.setIfInBounds_toArray, List.set_cons_zero, List.set_cons_succ]
        refine wpAnyH_take (i := 13) (oi := { dst := some 32, op := Op.binOp BinOp.andNot 3 (Operand.tmp 29) (Operand.tmp 31) 3, type := 3, pos := "check.go:103", after := #[{ on := 10, ground := Ground.data }, { on := 12, ground := Ground.data }, { on := 8, ground := Ground.guard }], guard := some (8, true) }) (v := .int .i64 (bits BinOp.andNot .i64 v fl)) rfl (by kernel_rfl) (by kernel_rfl) (by kernel_rfl) (fun _ _ _ h => h) (Or.inl ⟨by kernel_rfl, ?_⟩) hS1 ?_
        · intro W hW
          clear hW
          go_simp
        try simp only [Act.put, List.setIfInBounds_toArray, List.set_cons_zero, List.set_cons_succ]
        refine wpAnyH_take (i := 14) (oi := { dst := some 33, op := Op.binOp BinOp.eql 3 (Operand.tmp 32) (Operand.const (Value.int IntKind.i64 0)) 3, type := 4, pos := "check.go:103", after := #[{ on := 13, ground := Ground.data }, { on := 8, ground := Ground.guard }], guard := some (8, true) }) (v := .bool false) rfl (by kernel_rfl) (by kernel_rfl) (by kernel_rfl) (fun _ _ _ h => h) (Or.inl ⟨by kernel_rfl, ?_⟩) hS1 ?_
        · intro W hW
          clear hW
          go_simp
        try simp only [Act.put, List.setIfInBounds_toArray, List.set_cons_zero, List.set_cons_succ]
        refine wpAnyH_take (i := 15) (oi := { dst := some 34, op := Op.pick (Operand.tmp 27) (Operand.tmp 33) (Operand.const (Value.bool false)), type := 4, pos := "check.go:103", after := #[{ on := 8, ground := Ground.data }, { on := 14, ground := Ground.data }], guard := none }) (v := .bool false) rfl (by kernel_rfl) (by kernel_rfl) (by kernel_rfl) (fun _ _ _ h => h) (Or.inl ⟨by kernel_rfl, ?_⟩) hS1 ?_
        · intro W hW
          clear hW
          go_simp
        try simp only [Act.put, List.setIfInBounds_toArray, List.set_cons_zero, List.set_cons_succ]
        refine wpAnyH_take (i := 16) (oi := { dst := some 35, op := Op.move (Operand.tmp 34), type := 4, pos := "check.go:103", after := #[{ on := 15, ground := Ground.data }, { on := 10, ground := Ground.chain }], guard := none }) (v := .bool false) rfl (by kernel_rfl) (by kernel_rfl) (by kernel_rfl) (fun _ _ _ h => h) (Or.inl ⟨by kernel_rfl, ?_⟩) hS1 ?_
        · intro W hW
          clear hW
          go_simp
        try simp only [Act.put, List.setIfInBounds_toArray, List.set_cons_zero, List.set_cons_succ]
        refine wpAnyH_take (i := 17) (oi := { dst := some 36, op := Op.fieldAddr 96 (Operand.tmp 7) 2, type := 0, pos := "check.go:103", after := #[{ on := 16, ground := Ground.guard }], guard := some (16, true) }) (v := undef) rfl (by kernel_rfl) (by kernel_rfl) (by kernel_rfl) (fun _ _ _ h => h) (Or.inr ⟨by kernel_rfl, rfl⟩) hS1 ?_
        try simp only [Act.put, List.setIfInBounds_toArray, List.set_cons_zero, List.set_cons_succ]
        refine wpAnyH_take (i := 18) (oi := { dst := some 37, op := Op.load 94 (Operand.tmp 36), type := 94, pos := "check.go:103", after := #[{ on := 17, ground := Ground.data }, { on := 16, ground := Ground.guard }], guard := some (16, true) }) (v := undef) rfl (by kernel_rfl) (by kernel_rfl) (by kernel_rfl) (fun _ _ _ h => h) (Or.inr ⟨by kernel_rfl, rfl⟩) hS1 ?_
        try simp only [Act.put, List.setIfInBounds_toArray, List.set_cons_zero, List.set_cons_succ]
        refine wpAnyH_take (i := 19) (oi := { dst := some 38, op := Op.load 66 (Operand.tmp 4), type := 66, pos := "check.go:103", after := #[{ on := 16, ground := Ground.guard }], guard := some (16, true) }) (v := undef) rfl (by kernel_rfl) (by kernel_rfl) (by kernel_rfl) (fun _ _ _ h => h) (Or.inr ⟨by kernel_rfl, rfl⟩) hS1 ?_
        try simp only [Act.put, List.setIfInBounds_toArray, List.set_cons_zero, List.set_cons_succ]
        refine wpAnyH_take (i := 20) (oi := { dst := some 39, op := Op.move (Operand.tmp 2), type := 3, pos := "check.go:103", after := #[{ on := 16, ground := Ground.guard }], guard := some (16, true) }) (v := undef) rfl (by kernel_rfl) (by kernel_rfl) (by kernel_rfl) (fun _ _ _ h => h) (Or.inr ⟨by kernel_rfl, rfl⟩) hS1 ?_
        try simp only [Act.put, List.setIfInBounds_toArray, List.set_cons_zero, List.set_cons_succ]
        refine wpAnyH_take (i := 21) (oi := { dst := some 40, op := Op.call { callee := Callee.value (Operand.tmp 37), args := #[Operand.tmp 38, Operand.tmp 39], argTypes := #[66, 3] }, type := 4, pos := "check.go:103", after := #[{ on := 18, ground := Ground.data }, { on := 19, ground := Ground.data }, { on := 20, ground := Ground.data }, { on := 16, ground := Ground.chain }, { on := 16, ground := Ground.guard }], guard := some (16, true) }) (v := undef) rfl (by kernel_rfl) (by kernel_rfl) (by kernel_rfl) (fun _ _ _ h => h) (Or.inr ⟨by kernel_rfl, rfl⟩) hS1 ?_
        try simp only [Act.put, List.setIfInBounds_toArray, List.set_cons_zero, List.set_cons_succ]
        refine wpAnyH_take (i := 22) (oi := { dst := some 41, op := Op.pick (Operand.tmp 35) (Operand.tmp 40) (Operand.const (Value.bool false)), type := 4, pos := "check.go:103", after := #[{ on := 16, ground := Ground.data }, { on := 21, ground := Ground.data }], guard := none }) (v := .bool false) rfl (by kernel_rfl) (by kernel_rfl) (by kernel_rfl) (fun _ _ _ h => h) (Or.inl ⟨by kernel_rfl, ?_⟩) hS1 ?_
        · intro W hW
          clear hW
          go_simp
        try simp only [Act.put, List.setIfInBounds_toArray, List.set_cons_zero, List.set_cons_succ]
        refine wpAnyH_take (i := 23) (oi := { dst := some 6, op := Op.assign (Operand.tmp 41), type := 4, pos := "check.go:103", after := #[{ on := 22, ground := Ground.data }, { on := 21, ground := Ground.chain }, { on := 0, ground := Ground.phase }, { on := 1, ground := Ground.phase }, { on := 2, ground := Ground.phase }, { on := 3, ground := Ground.phase }, { on := 4, ground := Ground.phase }, { on := 5, ground := Ground.phase }, { on := 6, ground := Ground.phase }, { on := 7, ground := Ground.phase }, { on := 8, ground := Ground.phase }, { on := 9, ground := Ground.phase }, { on := 10, ground := Ground.phase }, { on := 11, ground := Ground.phase }, { on := 12, ground := Ground.phase }, { on := 13, ground := Ground.phase }, { on := 14, ground := Ground.phase }, { on := 15, ground := Ground.phase }, { on := 16, ground := Ground.phase }, { on := 17, ground := Ground.phase }, { on := 18, ground := Ground.phase }, { on := 19, ground := Ground.phase }, { on := 20, ground := Ground.phase }, { on := 21, ground := Ground.phase }, { on := 22, ground := Ground.phase }], guard := none }) (v := .bool false) rfl (by kernel_rfl) (by kernel_rfl) (by kernel_rfl) (fun _ _ _ h => h) (Or.inl ⟨by kernel_rfl, ?_⟩) hS1 ?_
        · intro W hW
          clear hW
          go_simp
        try simp only [Act.put, List.setIfInBounds_toArray, List.set_cons_zero, List.set_cons_succ]
        refine wpAnyH_done (by kernel_rfl) ?_ _
        go_wp2
        go_ret
        exact ⟨rfl, hB2.out.trans (hS1.mono hB2.out.size)⟩
end
end Go.Proofs.YtmchfoedjajbdaaGreat
/-
  Which rows may be, as one plain function. Conditions: none.
-/
set_option linter.unusedSimpArgs false
set_option linter.unusedVariables false
namespace Go.Proofs.YtmchfoedjajbdaaGreat
open Go Go.RowKit Go.ChangeMaps

/-- The fields of each kind, and where a piece stands. -/
def cfl (k : Int) : Int := if k = 1 then 1792 else if k = 2 then 2080 else if k = 3 then 2048 else if k = 4 then 2048 else if k = 5 then 2048 else if k = 6 then 3072 else if k = 7 then 3072 else if k = 8 then 3072 else if k = 9 then 3072 else if k = 10 then 3072 else if k = 11 then 3776 else if k = 12 then 5632 else 2112
def pfl (k : Int) : Int := if k = 1 then 1 else if k = 2 then 1 else if k = 3 then 8 else if k = 4 then 15 else if k = 5 then 16 else 8
def ppl (k : Int) : Int := if k = 1 then 15 else if k = 2 then 3 else if k = 3 then 3 else if k = 4 then 15 else if k = 5 then 15 else 15
/-- How many ( are open behind a text; none, if one ) is too many. -/
def parL : List UInt8 → Nat → Option Nat
  | [], n => some n
  | b :: l, n => if b.toNat = 40 then parL l (n + 1) else if b.toNat = 41 then (match n with | 0 => none | m + 1 => parL l m) else parL l n
def parF : F → Nat → Option Nat
  | .piece k t _ _ _ _ r, n => if k = 1 then (match parL t.data.toList n with | none => none | some m => parF r m) else parF r n
  | _, n => some n
def hashP (f : F) : Bool := Lib.hasPrefix (beginP f).data.toList [35]
def wholeH (f : F) : Bool := decide (0 < f.len) && !hashP f
def cutOwn (c : Bool) (K : F) (mark : List UInt8) : Bool := !c && !(!mark.isEmpty && Lib.hasPrefix (beginP K).data.toList mark)
def paramOwn (t : ByteArray) (p : Int) (c : Bool) (K : F) : Bool :=
  (paramB t && !(signB t && decide (p ≠ 0))) && (if p = 0 ∨ p = 1 then decide (K.len = 0) && !c else if 2 ≤ p ∧ p ≤ 5 then true else if p = 6 then cutOwn c K [35] else if p = 8 then cutOwn c K [37] else if p = 7 ∨ p = 9 then cutOwn c K [] else false)
/-- What is asked of a piece in a place besides what it holds. -/
def pieceOwn (m k : Int) (t : ByteArray) (p : Int) (c : Bool) (K : F) : Bool :=
  if k = 1 then !t.toList.isEmpty && !Lib.containsAny t.data.toList (barP m).data.toList else if k = 4 then paramOwn t p c K else if k = 6 then decide (parF K 0 = some 0) else true
/-- Where a piece's kids stand. -/
def placeK (k : Int) : Int := if k = 3 then 4 else if k = 6 then 8 else 2
def joinN (k : Int) : F → Bool
  | .piece k' _ _ _ _ _ _ => joinP k k'
  | _ => false
/-- What is asked of a command besides what it holds. -/
def mayN (k : Int) (b : Bool) (n : ByteArray) (g : Bool) (S W R L : F) : Bool :=
  if k = 1 then simpP S.len R.len W else if k = 2 then pipeP b L else if k = 3 then pairP L else if k = 4 then pairP L else if k = 5 then backP L else if k = 6 then groupP L else if k = 7 then groupP L else if k = 8 then ifP L else if k = 9 then loopP L else if k = 10 then loopP L else if k = 11 then forP n g W.len L else if k = 12 then decide (W.len = 1) else funcP n L
def nodeOwn (k : Int) (b : Bool) (n : ByteArray) (g : Bool) (S W R L C : F) : Bool :=
  decide (1 ≤ k ∧ k ≤ 13) && (decide (bits BinOp.andNot .i64 (cfP b n g S.len W.len R.len L.len C.len) (cfl k) = 0) && mayN k b n g S W R L)
/-- May a row be in a place (of pieces; 5 of words), within a Command or not? -/
def okF : F → Int → Bool → Bool
  | .nil, _, _ => true
  | .node k b n g S W R L C r, m, a => (nodeOwn k b n g S W R L C && (okF S 2 a && (okF W 5 a && (okF R 3 a && (okF L 6 a && okF C 4 a))))) && okF r m a
  | .piece k t p c K B r, m, a => ((decide (1 ≤ k ∧ k ≤ 6) && (decide (bits BinOp.and .i64 m (ppl k) ≠ 0) && (decide (bits BinOp.andNot .i64 (pfP t p c K.len B.len) (pfl k) = 0) && (pieceOwn m k t p c K && (okF K (placeK k) a && okF B 0 (a || decide (k = 5))))))) && !joinN k r) && okF r m a
  | .set n w r, m, a => (nameB n && okF w 1 a) && okF r m a
  | .redir d k w r, m, a => ((decide (0 ≤ d ∧ d ≤ 99 ∧ 1 ≤ k ∧ k ≤ 6) && (wholeH w && okF w 1 a)) && (decide (k ≠ 6) || (!a && textP w))) && okF r m a
  | .case W B r, m, a => (decide (0 < W.len) && (okF W 5 a && okF B 0 a)) && okF r m a
  | .row x r, m, a => (if m = 5 then wholeH x && okF x 1 a else okF x 0 a) && okF r m a
/-- What is asked of a row's first thing. -/
def okH : F → Int → Bool → Bool
  | .nil, _, _ => true
  | .node k b n g S W R L C _, _, a => nodeOwn k b n g S W R L C && (okF S 2 a && (okF W 5 a && (okF R 3 a && (okF L 6 a && okF C 4 a))))
  | .piece k t p c K B r, m, a => decide (1 ≤ k ∧ k ≤ 6) && (decide (bits BinOp.and .i64 m (ppl k) ≠ 0) && (decide (bits BinOp.andNot .i64 (pfP t p c K.len B.len) (pfl k) = 0) && (pieceOwn m k t p c K && (okF K (placeK k) a && okF B 0 (a || decide (k = 5))))))
  | .set n w _, _, a => nameB n && okF w 1 a
  | .redir d k w _, _, a => (decide (0 ≤ d ∧ d ≤ 99 ∧ 1 ≤ k ∧ k ≤ 6) && (wholeH w && okF w 1 a)) && (decide (k ≠ 6) || (!a && textP w))
  | .case W B _, _, a => decide (0 < W.len) && (okF W 5 a && okF B 0 a)
  | .row x _, m, a => if m = 5 then wholeH x && okF x 1 a else okF x 0 a
theorem ok_step {f : F} {m : Int} {a : Bool} {t : Nat} (ht : Ty f t) (h1 : t ≠ 1) (hp : 0 < f.len) : okF f m a = (okH f m a && okF f.tl m a) := by
  cases f with
  | piece => exact absurd ht.1 h1
  | nil => exact absurd hp (Nat.lt_irrefl 0)
  | _ => rfl
theorem ok_row {f : F} {m : Int} {a : Bool} {t : Nat} (ht : Ty f t) (h1 : t ≠ 1) (j : Nat) (hj : j < f.len) : okF (f.drop j) m a = (okH (f.drop j) m a && okF (f.drop (j + 1)) m a) := by
  rw [ok_step (ty_drop j ht) h1 (by rw [drop_len]; omega), drop_tl]
theorem ok_end (f : F) (m : Int) (a : Bool) : okF (f.drop f.len) m a = true := by
  rw [len0 (f := f.drop f.len) (by rw [drop_len]; omega)]; rfl
/-- Only fields that a kind has. -/
theorem pf_zero : ∀ b1 b2 b3 b4 b5 : Bool, ∀ k ∈ [(1 : Int), 2, 3, 4, 5, 6], bits BinOp.andNot IntKind.i64 (bits BinOp.or IntKind.i64 (bits BinOp.or IntKind.i64 (bits BinOp.or IntKind.i64 (bits BinOp.or IntKind.i64 (bitP b1 1) (bitP b2 2)) (bitP b3 4)) (bitP b4 8)) (bitP b5 16)) (pfl k) = 0 → (k ≠ 3 → k ≠ 4 → k ≠ 6 → b4 = false) ∧ (k ≠ 5 → b5 = false) := by decide +kernel
theorem pf_kids {t : ByteArray} {p : Int} {c : Bool} {mK mB : Nat} {k : Int} (hk : 1 ≤ k ∧ k ≤ 6) (h : bits BinOp.andNot .i64 (pfP t p c mK mB) (pfl k) = 0) : (k ≠ 3 → k ≠ 4 → k ≠ 6 → mK = 0) ∧ (k ≠ 5 → mB = 0) := by
  have h2 := pf_zero (!t.toList.isEmpty) (p != 0) c (decide (0 < mK)) (decide (0 < mB)) k (by
    have : k = 1 ∨ k = 2 ∨ k = 3 ∨ k = 4 ∨ k = 5 ∨ k = 6 := by omega
    rcases this with rfl | rfl | rfl | rfl | rfl | rfl <;> decide) h
  exact ⟨fun a b c => by have := h2.1 a b c; simpa using this, fun a => by have := h2.2 a; simpa using this⟩
end Go.Proofs.YtmchfoedjajbdaaGreat
/-
  trees: a judge's rules of single kinds of pieces, of rows and of what they hold. Conditions: not too great.
-/
set_option linter.unusedSimpArgs false
set_option linter.unusedVariables false
namespace Go.Proofs.YtmchfoedjajbdaaGreat
open Go Go.RowKit Go.ChangeMaps

theorem bar_asc (m : Int) : AscB (barP m) ∧ (barP m).size ≤ 1000000 := by
  have h : ∀ s ∈ [(⟨#[32, 9, 10, 59, 38, 124, 60, 62, 40, 41, 36, 96, 92, 34, 39]⟩ : ByteArray), ⟨#[36, 96, 92, 34, 39, 125]⟩, ⟨#[36, 96, 92, 34, 39, 35]⟩, ⟨#[]⟩], (∀ b ∈ s.data.toList, b.toNat < 128) ∧ s.size ≤ 1000000 := by decide +kernel
  unfold barP AscB
  split
  · exact h _ (by simp)
  · split
    · exact h _ (by simp)
    · split
      · exact h _ (by simp)
      · exact h _ (by simp)
section
variable {w0 w : World} {jb : Nat} {k p m : Int} {t : ByteArray} {c : Bool} {AK AY : Value}
set_option maxRecDepth 100000 in
set_option maxHeartbeats 4000000 in
theorem jbare_any {v : Bool} (hz : t.size ≤ 1000000) (hv : (!t.toList.isEmpty && !Lib.containsAny t.data.toList (barP m).data.toList) = v) : Calls Tryz.prog 72 #[.pointer (some ⟨jb, 0, none⟩), pcV k t p c AK AY, .int .i64 m] w fun e w' => e = .returned (.bool v) ∧ Below w.heap.size w w' := by
  have hb := fun W => barred_any m W
  have hc := fun W => containsAny_any t (barP m) W hz (bar_asc m).2 (bar_asc m).1
  unfold pcV
  have hbW := fun o => (Below.refl w.heap.size w).alloc (Nat.le_refl _) o
  generalize Lib.containsAny t.data.toList (barP m).data.toList = u at hc hv
  generalize barP m = s at hb hc
  replace hbW := Lib.hid hbW
  clear hz
  by_cases hte : t.toList.isEmpty = true
  · obtain rfl : false = v := by rw [← hv, hte]; rfl
    clear hb hc hv
    go_enter Tryz.func72, Tryz.ntmps72
    go_upto_region 1 with fail
    have hk1 := Blk.new w [.int .i64 k, .string t, .int .i64 p, .bool c, AK, AY] 66
    have hW1 := hbW.out (.cells #[.int .i64 k, .string t, .int .i64 p, .bool c, AK, AY] 66)
    generalize w.alloc (.cells #[.int .i64 k, .string t, .int .i64 p, .bool c, AK, AY] 66) = w1 at hk1 hW1 ⊢
    generalize w.heap.size = y at hk1 ⊢
    have y1 := hk1.cell (i := 1) rfl
    have yl := hk1.lt
    replace hW1 := Lib.hid hW1
    clear hk1 hbW
    go_quiet (fail)
    go_wp2
    go_ret
    exact ⟨rfl, hW1.out.trans ((drewN_below _ _).mono hW1.out.size)⟩
  · have hte2 : t.toList.isEmpty = false := by simpa using hte
    obtain rfl : (!u) = v := by rw [← hv, hte2]; rfl
    clear hv hte
    replace hb := Lib.hid hb
    replace hc := Lib.hid hc
    go_enter Tryz.func72, Tryz.ntmps72
    go_upto_region 1 with fail
    have hk1 := Blk.new w [.int .i64 k, .string t, .int .i64 p, .bool c, AK, AY] 66
    have hW1 := hbW.out (.cells #[.int .i64 k, .string t, .int .i64 p, .bool c, AK, AY] 66)
    generalize w.alloc (.cells #[.int .i64 k, .string t, .int .i64 p, .bool c, AK, AY] 66) = w1 at hk1 hW1 ⊢
    generalize w.heap.size = y at hk1 ⊢
    have y1 := hk1.cell (i := 1) rfl
    have yl := hk1.lt
    replace hW1 := Lib.hid hW1
    clear hk1 hbW
    go_region_held3 (fun W => W.cell? ⟨y, 1, none⟩ = some (.string t))
      (first | go_keep | exact hk)
      (first
        | (go_at_call 113; refine (hb.out w1.drew).mono ?_; rintro e w5 ⟨rfl, hw5⟩; obtain rfl := hw5.symm)
        | (go_at_call 112; refine (hc.out _).mono ?_; rintro e w6 ⟨rfl, hb6⟩; have hk := cell_below hb6 yl y1))
    go_wp2
    go_ret
    exact ⟨rfl, hW1.out.trans (((drewN_below w1 1).trans hb6).mono hW1.out.size)⟩
set_option maxRecDepth 100000 in
theorem jsingle_any : Calls Tryz.prog 73 #[.pointer (some ⟨jb, 0, none⟩), pcV k t p c AK AY, .int .i64 m] w fun e w' => e = .returned (.bool true) ∧ Below w.heap.size w w' := by
  unfold pcV
  have hW0 := Lib.hid (fun o => (Below.refl w.heap.size w).alloc (Nat.le_refl _) o)
  go_enter Tryz.func73, Tryz.ntmps73
  go_wp2
  go_ret
  exact ⟨rfl, hW0.out _⟩
end
end Go.Proofs.YtmchfoedjajbdaaGreat
