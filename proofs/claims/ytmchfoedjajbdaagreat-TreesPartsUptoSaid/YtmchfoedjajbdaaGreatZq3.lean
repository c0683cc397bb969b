/-
  whelklaw12's Bytes and wordBytes: how many bytes there are. Conditions: not too great.
-/
import Derived.Test.YtmchfoedjajbdaaGreatZq2
set_option linter.unusedSimpArgs false
set_option linter.unusedVariables false
namespace Go.Proofs.YtmchfoedjajbdaaGreat
open Go Go.RowKit Go.ChangeMaps

def BytesOk (n : Nat) : Prop :=
  (∀ f, wt f < n → Ty f 0 → wt f ≤ 1048576 → ∀ W A c, Slc W A c f → Calls Tryz.prog 22 #[.slice A f.len c] W fun e w' => e = .returned (.int .i64 (byF f : Int)) ∧ Below W.heap.size W w') ∧
  (∀ f, wt f < n → Ty f 1 → wt f ≤ 1048576 → ∀ W A c, Slc W A c f → Calls Tryz.prog 37 #[.slice A f.len c] W fun e w' => e = .returned (.int .i64 (byF f : Int)) ∧ Below W.heap.size W w')
section
variable {n0 : Nat} {w : World} {A : Option Addr} {c0 : Nat} {f g : F}
set_option maxRecDepth 100000 in
set_option maxHeartbeats 16000000 in
theorem r_wordBytes (hn : BytesOk n0) (ht : Ty f 1) (hw : wt f ≤ n0) (hK : wt f ≤ 1048576) (h : Slc w A c0 f) :
    Calls Tryz.prog 37 #[.slice A f.len c0] w fun e w' => e = .returned (.int .i64 (byF f : Int)) ∧ Below w.heap.size w w' := by
  have hm := h.1
  have hcm := h.2.1
  unfold maxLen at hcm
  obtain ⟨N, hN⟩ : ∃ N, f.len = N := ⟨_, rfl⟩
  obtain ⟨Z, hZ⟩ : ∃ Z, byF f = Z := ⟨_, rfl⟩
  have hZb : Z ≤ 1048576 := by rw [← hZ]; exact Nat.le_trans (by_wt f) hK
  rw [hN] at hm ⊢
  rw [hZ]
  have hI0 : Hid (0 + byF (f.drop 0) = Z) := Lib.hid (by rw [Nat.zero_add]; exact hZ)
  have hB0 : Hid (Below w.heap.size w w) := Lib.hid (Below.refl _ _)
  replace h := Lib.hid h
  replace ht := Lib.hid ht
  replace hw := Lib.hid hw
  replace hK := Lib.hid hK
  replace hN := Lib.hid hN
  replace hZ := Lib.hid hZ
  go_enter Tryz.func37, Tryz.ntmps37
  go_wp2
  go_loopw [3, 4] (fun nv iv wr => ∃ j s : Nat, j ≤ N ∧ s ≤ Z ∧ nv = .int .i64 (s : Int) ∧ iv = .int .i64 (j : Int) ∧ Hid (Below w.heap.size w wr) ∧ Hid (s + byF (f.drop j) = Z)) (fun _ iv _ => N - (intOf iv).toNat)
  case atStart => exact ⟨0, 0, Nat.zero_le _, Nat.zero_le _, rfl, rfl, hB0, hI0⟩
  case round =>
    clear hB0 hI0
    obtain ⟨j, s, hj, hsZ, rfl, rfl, hB, hI⟩ := hrel
    by_cases hlt : j < N
    · have hj1 : (0 : Int) ≤ (j : Int) := by omega
      have hj2 : (j : Int) < (N : Int) := by omega
      obtain ⟨B, o, rfl, hBl, hrw⟩ := h.out.2.2 (by rw [hN.out]; omega)
      have hrd := rw_drop j ht.out (by rw [hN.out]; omega) hrw
      have htd := ty_drop j ht.out
      have hwd := wt_drop j f
      have hpd : 0 < (f.drop j).len := by rw [drop_len, hN.out]; omega
      have hnx := drop_tl j f
      obtain ⟨k, t, p, c, K, Y, r, hfd, _, _, htK, htY, _⟩ := at_piece htd hpd
      have hI2 := hI.out
      rw [hfd] at hrd hnx hI2 hwd
      have hnx2 : r = f.drop (j + 1) := hnx
      rw [show szT 1 = 6 from rfl] at hrd
      simp only [wt] at hwd
      simp only [byF] at hI2
      obtain ⟨_, e1, _, _, ⟨AK, cK, e4, hsK⟩, ⟨AY, cY, e5, hsY⟩, _⟩ := rw_piece.1 hrd
      have hwf := hw.out
      have hKf := hK.out
      have hcK := fun W (hb : Below w.heap.size w W) => hn.2 K (by omega) htK (by omega) W AK cK (hsK.below hb)
      have hcY := fun W (hb : Below w.heap.size w W) => hn.1 Y (by omega) htY (by omega) W AY cY (hsY.below hb)
      obtain ⟨a, ha⟩ : ∃ a, byF K = a := ⟨_, rfl⟩
      obtain ⟨b, hb⟩ : ∃ b, byF Y = b := ⟨_, rfl⟩
      rw [ha, hb, hnx2] at hI2
      have hcK2 := fun W (hb : Below w.heap.size w W) => (show Calls Tryz.prog 37 #[.slice AK K.len cK] W fun e w' => e = .returned (.int .i64 (a : Int)) ∧ Below W.heap.size W w' by rw [← ha]; exact hcK W hb)
      have hcY2 := fun W (hb2 : Below w.heap.size w W) => (show Calls Tryz.prog 22 #[.slice AY Y.len cY] W fun e w' => e = .returned (.int .i64 (b : Int)) ∧ Below W.heap.size W w' by rw [← hb]; exact hcY W hb2)
      generalize K.len = mK at e4 hcK2
      generalize Y.len = mY at e5 hcY2
      have hE : Hid ((s + t.size + a + b) + byF (f.drop (j + 1)) = Z) := Lib.hid (by omega)
      have hsb : s + t.size + a + b ≤ Z := by omega
      have w1 : IntKind.i64.wrap ((s : Int) + (t.size : Int)) = (s : Int) + (t.size : Int) := IntWalk.i64_in _ (by omega)
      have w2 : IntKind.i64.wrap ((s : Int) + (t.size : Int) + (a : Int)) = (s : Int) + (t.size : Int) + (a : Int) := IntWalk.i64_in _ (by omega)
      have w3 : IntKind.i64.wrap ((s : Int) + (t.size : Int) + (a : Int) + (b : Int)) = (s : Int) + (t.size : Int) + (a : Int) + (b : Int) := IntWalk.i64_in _ (by omega)
      have hS := fun W (hb : Below w.heap.size w W) => (⟨cell_below hb hBl e1, cell_below hb hBl e4, cell_below hb hBl e5⟩ : W.cell? ⟨B, o + j * 6 + 1, none⟩ = some (.string t) ∧ W.cell? ⟨B, o + j * 6 + 4, none⟩ = some (.slice AK mK cK) ∧ W.cell? ⟨B, o + j * 6 + 5, none⟩ = some (.slice AY mY cY))
      replace hS := Lib.hid hS
      replace hcK2 := Lib.hid hcK2
      replace hcY2 := Lib.hid hcY2
      obtain ⟨q1, q4, q5⟩ := hS.out wr hB.out
      have hl : B < wr.heap.size := Nat.lt_of_lt_of_le hBl hB.out.size
      clear hrw hrd htd hwd hpd hnx hfd hnx2 hI2 e1 e4 e5 hsK hsY hcK hcY ha hb hI hwf hKf htK htY hBl
      go_upto_region 5 with fail
      clear q1 q4 q5 hl
      have hb0 := hB.out.trans ((drewN_below wr 1).mono hB.out.size)
      have hk0 := hS.out wr.drew hb0
      go_region_held3 (fun W => W.cell? ⟨B, o + j * 6 + 1, none⟩ = some (.string t) ∧ W.cell? ⟨B, o + j * 6 + 4, none⟩ = some (.slice AK mK cK) ∧ W.cell? ⟨B, o + j * 6 + 5, none⟩ = some (.slice AY mY cY))
        (first | go_keep | exact hk0 | exact hk1 | exact hk2)
        (first
          | (go_at_call 37; refine (hcK2.out _ hb0).mono ?_; rintro e w5 ⟨rfl, hc⟩; have hb1 := hb0.trans (hc.mono hb0.size); have hk1 := hS.out w5 hb1; clear hc)
          | (go_at_call 22; refine (hcY2.out _ hb1).mono ?_; rintro e w6 ⟨rfl, hc⟩; have hb2 := hb1.trans (hc.mono hb1.size); have hk2 := hS.out w6 hb2; clear hc))
      have hBE := Lib.hid hb2
      clear hk0 hk1 hk2 hb0 hb1 hb2 hS hcK2 hcY2 w1 w2 w3
      go_wp2
      go_roundw
      case rel => exact ⟨j + 1, s + t.size + a + b, by omega, hsb, by go_num, by go_num, hBE, hE⟩
      case measure => simp [intOf]; omega
    · obtain rfl : j = N := by omega
      have hj3 : ¬ (j : Int) < (j : Int) := by omega
      have hI2 := hI.out
      rw [drop_end f hN.out.symm] at hI2
      obtain rfl : s = Z := by simpa [byF] using hI2
      clear hI hI2
      go_wp2
      go_ret
      exact ⟨rfl, hB.out⟩
set_option maxRecDepth 100000 in
set_option maxHeartbeats 16000000 in
theorem r_Bytes (hn : BytesOk n0) (ht : Ty f 0) (hw : wt f ≤ n0) (hK : wt f ≤ 1048576) (h : Slc w A c0 f) :
    Calls Tryz.prog 22 #[.slice A f.len c0] w fun e w' => e = .returned (.int .i64 (byF f : Int)) ∧ Below w.heap.size w w' := by
  have hm := h.1
  have hcm := h.2.1
  unfold maxLen at hcm
  obtain ⟨N, hN⟩ : ∃ N, f.len = N := ⟨_, rfl⟩
  obtain ⟨Z, hZ⟩ : ∃ Z, byF f = Z := ⟨_, rfl⟩
  have hZb : Z ≤ 1048576 := by rw [← hZ]; exact Nat.le_trans (by_wt f) hK
  rw [hN] at hm ⊢
  rw [hZ]
  have hI0 : Hid (0 + byF (f.drop 0) = Z) := Lib.hid (by rw [Nat.zero_add]; exact hZ)
  have hB0 : Hid (Below w.heap.size w w) := Lib.hid (Below.refl _ _)
  replace h := Lib.hid h
  replace ht := Lib.hid ht
  replace hw := Lib.hid hw
  replace hK := Lib.hid hK
  replace hN := Lib.hid hN
  replace hZ := Lib.hid hZ
  go_enter Tryz.func22, Tryz.ntmps22
  go_wp2
  go_loopw [3, 4] (fun nv iv wr => ∃ j s : Nat, j ≤ N ∧ s ≤ Z ∧ nv = .int .i64 (s : Int) ∧ iv = .int .i64 (j : Int) ∧ Hid (Below w.heap.size w wr) ∧ Hid (s + byF (f.drop j) = Z)) (fun _ iv _ => N - (intOf iv).toNat)
  case atStart => exact ⟨0, 0, Nat.zero_le _, Nat.zero_le _, rfl, rfl, hB0, hI0⟩
  case round =>
    clear hB0 hI0
    obtain ⟨j, s, hj, hsZ, rfl, rfl, hB, hI⟩ := hrel
    by_cases hlt : j < N
    · have hj1 : (0 : Int) ≤ (j : Int) := by omega
      have hj2 : (j : Int) < (N : Int) := by omega
      obtain ⟨B, o, rfl, hBl, hrw⟩ := h.out.2.2 (by rw [hN.out]; omega)
      have hrd := rw_drop j ht.out (by rw [hN.out]; omega) hrw
      have htd := ty_drop j ht.out
      have hwd := wt_drop j f
      have hpd : 0 < (f.drop j).len := by rw [drop_len, hN.out]; omega
      have hnx := drop_tl j f
      obtain ⟨k, b, n, g, S, W, R, L, C, r, hfd, _, htS, htW, htR, htL, htC, _⟩ := at_node htd hpd
      have hI2 := hI.out
      rw [hfd] at hrd hnx hI2 hwd
      have hnx2 : r = f.drop (j + 1) := hnx
      rw [show szT 0 = 9 from rfl] at hrd
      obtain ⟨e0, e1, e2, e3, ⟨AS, cS, e4, hsS⟩, ⟨AW, cW, e5, hsW⟩, ⟨AR, cR, e6, hsR⟩, ⟨AL, cL, e7, hsL⟩, ⟨AC, cC, e8, hsC⟩, _⟩ := rw_node.1 (hrd.below hB.out hBl)
      have hwf := hw.out
      have hKf := hK.out
      simp only [wt] at hwd
      simp only [byF] at hI2
      rw [hnx2] at hI2
      obtain ⟨D, hD⟩ : ∃ D, byF (f.drop (j + 1)) = D := ⟨_, rfl⟩
      rw [hD] at hI2
      have hmS := hsS.1
      have hcmS := hsS.2.1
      unfold maxLen at hcmS
      have hwS : Hid (wt S < n0 ∧ wt S ≤ 1048576) := Lib.hid (by omega)
      obtain ⟨mS, hNS⟩ : ∃ N, S.len = N := ⟨_, rfl⟩
      rw [hNS] at hmS e4
      have hmW := hsW.1
      have hcmW := hsW.2.1
      unfold maxLen at hcmW
      have hwW : Hid (wt W < n0 ∧ wt W ≤ 1048576) := Lib.hid (by omega)
      obtain ⟨mW, hNW⟩ : ∃ N, W.len = N := ⟨_, rfl⟩
      rw [hNW] at hmW e5
      have hmR := hsR.1
      have hcmR := hsR.2.1
      unfold maxLen at hcmR
      have hwR : Hid (wt R < n0 ∧ wt R ≤ 1048576) := Lib.hid (by omega)
      obtain ⟨mR, hNR⟩ : ∃ N, R.len = N := ⟨_, rfl⟩
      rw [hNR] at hmR e6
      have hmL := hsL.1
      have hcmL := hsL.2.1
      unfold maxLen at hcmL
      have hwL : Hid (wt L < n0 ∧ wt L ≤ 1048576) := Lib.hid (by omega)
      obtain ⟨mL, hNL⟩ : ∃ N, L.len = N := ⟨_, rfl⟩
      rw [hNL] at hmL e7
      have hmC := hsC.1
      have hcmC := hsC.2.1
      unfold maxLen at hcmC
      have hwC : Hid (wt C < n0 ∧ wt C ≤ 1048576) := Lib.hid (by omega)
      obtain ⟨mC, hNC⟩ : ∃ N, C.len = N := ⟨_, rfl⟩
      rw [hNC] at hmC e8
      have hl : B < wr.heap.size := Nat.lt_of_lt_of_le hBl hB.out.size
      have hbA : Below wr.heap.size wr (wr.alloc (.cells #[.int .i64 k, .bool b, .string n, .bool g, .slice AS mS cS, .slice AW mW cW, .slice AR mR cR, .slice AL mL cL, .slice AC mC cC] 43)) := (Below.refl _ wr).alloc (Nat.le_refl _) _
      have bA : Blk (wr.alloc (.cells #[.int .i64 k, .bool b, .string n, .bool g, .slice AS mS cS, .slice AW mW cW, .slice AR mR cR, .slice AL mL cL, .slice AC mC cC] 43)) wr.heap.size [.int .i64 k, .bool b, .string n, .bool g, .slice AS mS cS, .slice AW mW cW, .slice AR mR cR, .slice AL mL cL, .slice AC mC cC] 43 := Blk.new wr _ _
      have hsS2 := Lib.hid (hsS.below hbA)
      replace htS := Lib.hid htS
      replace hNS := Lib.hid hNS
      clear hsS
      have hsW2 := Lib.hid (hsW.below hbA)
      replace htW := Lib.hid htW
      replace hNW := Lib.hid hNW
      clear hsW
      have hsR2 := Lib.hid (hsR.below hbA)
      replace htR := Lib.hid htR
      replace hNR := Lib.hid hNR
      clear hsR
      have hsL2 := Lib.hid (hsL.below hbA)
      replace htL := Lib.hid htL
      replace hNL := Lib.hid hNL
      clear hsL
      have hsC2 := Lib.hid (hsC.below hbA)
      replace htC := Lib.hid htC
      replace hNC := Lib.hid hNC
      clear hsC
      have hB2 := Lib.hid (hB.out.trans (hbA.mono hB.out.size))
      replace bA := Lib.hid bA
      have hI3 : Hid (s + n.size + (byF S + byF W + byF R + byF L + byF C) + D = Z) := Lib.hid (by omega)
      have hsn : s + n.size ≤ Z := by omega
      replace hD := Lib.hid hD
      clear hrw hrd htd hwd hpd hnx hfd hnx2 hI2 hI hwf hKf hBl hbA hB
      go_upto_region 6 with fail
      clear e0 e1 e2 e3 e4 e5 e6 e7 e8 hl
      generalize (wr.alloc (.cells #[.int .i64 k, .bool b, .string n, .bool g, .slice AS mS cS, .slice AW mW cW, .slice AR mR cR, .slice AL mL cL, .slice AC mC cC] 43)) = w2 at bA hB2 hsS2 hsW2 hsR2 hsL2 hsC2 ⊢
      generalize wr.heap.size = y at bA ⊢
      have y2 := bA.out.cell (i := 2) rfl
      have yl0 := bA.out.lt
      have hBr : Hid (Below w2.heap.size w2 w2) := Lib.hid (Below.refl _ _)
      go_wp2
      clear y2 yl0
      have hJ0 : Hid ((s + n.size) + byF (S.drop 0) + (byF W + byF R + byF L + byF C) + D = Z) := Lib.hid (by have := hI3.out; simp only [F.drop]; omega)
      go_loopw [3, 6] (fun nv iv wr => ∃ q u : Nat, q ≤ mS ∧ u ≤ Z ∧ nv = .int .i64 (u : Int) ∧ iv = .int .i64 (q : Int) ∧ Hid (Below w2.heap.size w2 wr) ∧ Hid (u + byF (S.drop q) + (byF W + byF R + byF L + byF C) + D = Z)) (fun _ iv _ => mS - (intOf iv).toNat)
      case atStart => exact ⟨0, (s + n.size), Nat.zero_le _, hsn, by first | rfl | go_num, rfl, hBr, hJ0⟩
      case round =>
        clear hBr hJ0 hI3
        obtain ⟨q, u0, hq, huZ, rfl, rfl, hBx, hJ⟩ := hrel
        have bX : Blk wr y _ _ := (hBx.out.block y bA.out.lt).trans bA.out
        have yi := bX.cell (i := 4) rfl
        have yl := bX.lt
        by_cases hlq : q < mS
        · skip
          have hq1 : (0 : Int) ≤ (q : Int) := by omega
          have hq2 : (q : Int) < (mS : Int) := by omega
          obtain ⟨B2, o2, rfl, hBl2, hrw2⟩ := hsS2.out.2.2 (by rw [hNS.out]; omega)
          have hrd2 := rw_drop q htS.out (by rw [hNS.out]; omega) hrw2
          have htd2 := ty_drop q htS.out
          have hwd2 := wt_drop q S
          have hpd2 : 0 < (S.drop q).len := by rw [drop_len, hNS.out]; omega
          have hnx2 := drop_tl q S
          have hJ2 := hJ.out
          rw [show szT 2 = 2 from rfl] at hrd2
          obtain ⟨n1, x1, r1, hfd2, htx, _⟩ := at_set htd2 hpd2
          rw [hfd2] at hrd2 hnx2 hJ2 hwd2
          have hnx3 : r1 = S.drop (q + 1) := hnx2
          simp only [wt] at hwd2
          simp only [byF] at hJ2
          rw [hnx3] at hJ2
          have hwx := hwS.out
          obtain ⟨en, ⟨Ax, cx, ex, hsx⟩, _⟩ := rw_set.1 hrd2
          have hcx := fun W9 (hb : Below w2.heap.size w2 W9) => hn.2 x1 (by omega) htx (by omega) W9 Ax cx (hsx.below hb)
          obtain ⟨a, ha⟩ : ∃ a, byF x1 = a := ⟨_, rfl⟩
          rw [ha] at hJ2
          have hcx2 := fun W9 (hb : Below w2.heap.size w2 W9) => (show Calls Tryz.prog 37 #[.slice Ax x1.len cx] W9 fun e w' => e = .returned (.int .i64 (a : Int)) ∧ Below W9.heap.size W9 w' by rw [← ha]; exact hcx W9 hb)
          generalize x1.len = mx at hcx2 ex
          replace hcx2 := Lib.hid hcx2
          have hJE : Hid (u0 + n1.size + a + byF (S.drop (q + 1)) + (byF W + byF R + byF L + byF C) + D = Z) := Lib.hid (by omega)
          have hub : u0 + n1.size + a ≤ Z := by omega
          have w1 : IntKind.i64.wrap ((u0 : Int) + (n1.size : Int)) = (u0 : Int) + (n1.size : Int) := IntWalk.i64_in _ (by omega)
          have w3 : IntKind.i64.wrap ((u0 : Int) + (n1.size : Int) + (a : Int)) = (u0 : Int) + (n1.size : Int) + (a : Int) := IntWalk.i64_in _ (by omega)
          have hS := fun W9 (hb : Below w2.heap.size w2 W9) => (⟨(show Blk W9 y _ _ from (hb.block y bA.out.lt).trans bA.out).cell (i := 4) rfl, cell_below hb hBl2 en, cell_below hb hBl2 ex⟩ : W9.cell? ⟨y, 4, none⟩ = some (.slice (some ⟨B2, o2, none⟩) mS cS) ∧ W9.cell? ⟨B2, o2 + q * 2, none⟩ = some (.string n1) ∧ W9.cell? ⟨B2, o2 + q * 2 + 1, none⟩ = some (.slice Ax mx cx))
          replace hS := Lib.hid hS
          obtain ⟨z0, z1, z2⟩ := hS.out wr hBx.out
          have hl2 : B2 < wr.heap.size := Nat.lt_of_lt_of_le hBl2 hBx.out.size
          clear hrw2 hrd2 htd2 hwd2 hpd2 hnx2 hJ2 hfd2 hnx3 hsx ha hJ ex en hcx htx hwx bX
          go_upto_region 10 with fail
          clear z0 z1 z2 hl2 yi yl
          have hb0 := hBx.out.trans ((drewN_below wr 1).mono hBx.out.size)
          have hk0 := hS.out wr.drew hb0
          go_region_held3 (fun W9 => W9.cell? ⟨y, 4, none⟩ = some (.slice (some ⟨B2, o2, none⟩) mS cS) ∧ W9.cell? ⟨B2, o2 + q * 2, none⟩ = some (.string n1) ∧ W9.cell? ⟨B2, o2 + q * 2 + 1, none⟩ = some (.slice Ax mx cx))
            (first | go_keep | exact hk0 | exact hk1)
            ((go_at_call 37; refine (hcx2.out _ hb0).mono ?_; rintro e w5 ⟨rfl, hc⟩; have hb1 := hb0.trans (hc.mono hb0.size); have hk1 := hS.out w5 hb1; clear hc))
          have hBE := Lib.hid hb1
          clear hk0 hk1 hb0 hb1 hS hcx2 w1 w3 hBl2
          go_wp2
          go_roundw
          case rel => exact ⟨q + 1, u0 + n1.size + a, by omega, hub, by go_num, by go_num, hBE, hJE⟩
          case measure => simp [intOf]; omega
        · skip
          obtain rfl : q = mS := by omega
          have hq3 : ¬ (q : Int) < (q : Int) := by omega
          have hJn : Hid (u0 + (byF W + byF R + byF L + byF C) + D = Z) := Lib.hid (by have hJ2 := hJ.out; rw [drop_end S hNS.out.symm] at hJ2; simp only [byF] at hJ2; omega)
          have hBr := hBx
          clear hJ hBx bX hlq
          go_wp2
          clear yi yl hq3
          have hJ0 : Hid (u0 + byF (W.drop 0) + (byF R + byF L + byF C) + D = Z) := Lib.hid (by have := hJn.out; simp only [F.drop]; omega)
          clear hJn
          go_loopw [3, 7] (fun nv iv wr => ∃ q u : Nat, q ≤ mW ∧ u ≤ Z ∧ nv = .int .i64 (u : Int) ∧ iv = .int .i64 (q : Int) ∧ Hid (Below w2.heap.size w2 wr) ∧ Hid (u + byF (W.drop q) + (byF R + byF L + byF C) + D = Z)) (fun _ iv _ => mW - (intOf iv).toNat)
          case atStart => exact ⟨0, u0, Nat.zero_le _, huZ, by first | rfl | go_num, rfl, hBr, hJ0⟩
          case round =>
            clear hBr hJ0
            obtain ⟨q, u1, hq, huZ, rfl, rfl, hBx, hJ⟩ := hrel
            have bX : Blk wr y _ _ := (hBx.out.block y bA.out.lt).trans bA.out
            have yi := bX.cell (i := 5) rfl
            have yl := bX.lt
            by_cases hlq : q < mW
            · skip
              have hq1 : (0 : Int) ≤ (q : Int) := by omega
              have hq2 : (q : Int) < (mW : Int) := by omega
              obtain ⟨B2, o2, rfl, hBl2, hrw2⟩ := hsW2.out.2.2 (by rw [hNW.out]; omega)
              have hrd2 := rw_drop q htW.out (by rw [hNW.out]; omega) hrw2
              have htd2 := ty_drop q htW.out
              have hwd2 := wt_drop q W
              have hpd2 : 0 < (W.drop q).len := by rw [drop_len, hNW.out]; omega
              have hnx2 := drop_tl q W
              have hJ2 := hJ.out
              rw [show szT 5 = 1 from rfl, Nat.mul_one] at hrd2
              obtain ⟨x1, r1, hfd2, htx, _⟩ := at_word htd2 hpd2
              rw [hfd2] at hrd2 hnx2 hJ2 hwd2
              have hnx3 : r1 = W.drop (q + 1) := hnx2
              simp only [wt] at hwd2
              simp only [byF] at hJ2
              rw [hnx3] at hJ2
              have hwx := hwW.out
              obtain ⟨⟨Ax, cx, ex, hsx⟩, _⟩ := rw_row.1 hrd2
              have hcx := fun W9 (hb : Below w2.heap.size w2 W9) => hn.2 x1 (by omega) htx (by omega) W9 Ax cx (hsx.below hb)
              obtain ⟨a, ha⟩ : ∃ a, byF x1 = a := ⟨_, rfl⟩
              rw [ha] at hJ2
              have hcx2 := fun W9 (hb : Below w2.heap.size w2 W9) => (show Calls Tryz.prog 37 #[.slice Ax x1.len cx] W9 fun e w' => e = .returned (.int .i64 (a : Int)) ∧ Below W9.heap.size W9 w' by rw [← ha]; exact hcx W9 hb)
              generalize x1.len = mx at hcx2 ex
              replace hcx2 := Lib.hid hcx2
              have hJE : Hid (u1 + a + byF (W.drop (q + 1)) + (byF R + byF L + byF C) + D = Z) := Lib.hid (by omega)
              have hub : u1 + a ≤ Z := by omega
              have ex2 := cell_below hBx.out hBl2 ex
              have hl2 : B2 < wr.heap.size := Nat.lt_of_lt_of_le hBl2 hBx.out.size
              have hc := hcx2.out wr hBx.out
              clear hrw2 hrd2 htd2 hwd2 hpd2 hnx2 hJ2 hfd2 hnx3 hsx ha hJ ex hcx htx hwx bX hcx2
              go_wp2_with fail
              refine hc.mono ?_
              rintro e w5 ⟨rfl, hb5⟩
              have hBE := Lib.hid (hBx.out.trans (hb5.mono hBx.out.size))
              clear hc hb5 ex2 hl2 hBl2 hBx yi yl
              go_wp2
              go_roundw
              case rel => exact ⟨q + 1, u1 + a, by omega, hub, by go_num, by go_num, hBE, hJE⟩
              case measure => simp [intOf]; omega
            · skip
              obtain rfl : q = mW := by omega
              have hq3 : ¬ (q : Int) < (q : Int) := by omega
              have hJn : Hid (u1 + (byF R + byF L + byF C) + D = Z) := Lib.hid (by have hJ2 := hJ.out; rw [drop_end W hNW.out.symm] at hJ2; simp only [byF] at hJ2; omega)
              have hBr := hBx
              clear hJ hBx bX hlq
              go_wp2
              clear yi yl hq3
              have hJ0 : Hid (u1 + byF (R.drop 0) + (byF L + byF C) + D = Z) := Lib.hid (by have := hJn.out; simp only [F.drop]; omega)
              clear hJn
              go_loopw [3, 8] (fun nv iv wr => ∃ q u : Nat, q ≤ mR ∧ u ≤ Z ∧ nv = .int .i64 (u : Int) ∧ iv = .int .i64 (q : Int) ∧ Hid (Below w2.heap.size w2 wr) ∧ Hid (u + byF (R.drop q) + (byF L + byF C) + D = Z)) (fun _ iv _ => mR - (intOf iv).toNat)
              case atStart => exact ⟨0, u1, Nat.zero_le _, huZ, by first | rfl | go_num, rfl, hBr, hJ0⟩
              case round =>
                clear hBr hJ0
                obtain ⟨q, u2, hq, huZ, rfl, rfl, hBx, hJ⟩ := hrel
                have bX : Blk wr y _ _ := (hBx.out.block y bA.out.lt).trans bA.out
                have yi := bX.cell (i := 6) rfl
                have yl := bX.lt
                by_cases hlq : q < mR
                · skip
                  have hq1 : (0 : Int) ≤ (q : Int) := by omega
                  have hq2 : (q : Int) < (mR : Int) := by omega
                  obtain ⟨B2, o2, rfl, hBl2, hrw2⟩ := hsR2.out.2.2 (by rw [hNR.out]; omega)
                  have hrd2 := rw_drop q htR.out (by rw [hNR.out]; omega) hrw2
                  have htd2 := ty_drop q htR.out
                  have hwd2 := wt_drop q R
                  have hpd2 : 0 < (R.drop q).len := by rw [drop_len, hNR.out]; omega
                  have hnx2 := drop_tl q R
                  have hJ2 := hJ.out
                  rw [show szT 3 = 3 from rfl] at hrd2
                  obtain ⟨d1, k1, x1, r1, hfd2, _, _, htx, _⟩ := at_redir htd2 hpd2
                  rw [hfd2] at hrd2 hnx2 hJ2 hwd2
                  have hnx3 : r1 = R.drop (q + 1) := hnx2
                  simp only [wt] at hwd2
                  simp only [byF] at hJ2
                  rw [hnx3] at hJ2
                  have hwx := hwR.out
                  obtain ⟨_, _, ⟨Ax, cx, ex, hsx⟩, _⟩ := rw_redir.1 hrd2
                  have hcx := fun W9 (hb : Below w2.heap.size w2 W9) => hn.2 x1 (by omega) htx (by omega) W9 Ax cx (hsx.below hb)
                  obtain ⟨a, ha⟩ : ∃ a, byF x1 = a := ⟨_, rfl⟩
                  rw [ha] at hJ2
                  have hcx2 := fun W9 (hb : Below w2.heap.size w2 W9) => (show Calls Tryz.prog 37 #[.slice Ax x1.len cx] W9 fun e w' => e = .returned (.int .i64 (a : Int)) ∧ Below W9.heap.size W9 w' by rw [← ha]; exact hcx W9 hb)
                  generalize x1.len = mx at hcx2 ex
                  replace hcx2 := Lib.hid hcx2
                  have hJE : Hid (u2 + a + byF (R.drop (q + 1)) + (byF L + byF C) + D = Z) := Lib.hid (by omega)
                  have hub : u2 + a ≤ Z := by omega
                  have ex2 := cell_below hBx.out hBl2 ex
                  have hl2 : B2 < wr.heap.size := Nat.lt_of_lt_of_le hBl2 hBx.out.size
                  have hc := hcx2.out wr hBx.out
                  clear hrw2 hrd2 htd2 hwd2 hpd2 hnx2 hJ2 hfd2 hnx3 hsx ha hJ ex hcx htx hwx bX hcx2
                  go_wp2_with fail
                  refine hc.mono ?_
                  rintro e w5 ⟨rfl, hb5⟩
                  have hBE := Lib.hid (hBx.out.trans (hb5.mono hBx.out.size))
                  clear hc hb5 ex2 hl2 hBl2 hBx yi yl
                  go_wp2
                  go_roundw
                  case rel => exact ⟨q + 1, u2 + a, by omega, hub, by go_num, by go_num, hBE, hJE⟩
                  case measure => simp [intOf]; omega
                · skip
                  obtain rfl : q = mR := by omega
                  have hq3 : ¬ (q : Int) < (q : Int) := by omega
                  have hJn : Hid (u2 + (byF L + byF C) + D = Z) := Lib.hid (by have hJ2 := hJ.out; rw [drop_end R hNR.out.symm] at hJ2; simp only [byF] at hJ2; omega)
                  have hBr := hBx
                  clear hJ hBx bX hlq
                  go_wp2
                  clear yi yl hq3
                  have hJ0 : Hid (u2 + byF (L.drop 0) + (byF C) + D = Z) := Lib.hid (by have := hJn.out; simp only [F.drop]; omega)
                  clear hJn
                  go_loopw [3, 9] (fun nv iv wr => ∃ q u : Nat, q ≤ mL ∧ u ≤ Z ∧ nv = .int .i64 (u : Int) ∧ iv = .int .i64 (q : Int) ∧ Hid (Below w2.heap.size w2 wr) ∧ Hid (u + byF (L.drop q) + (byF C) + D = Z)) (fun _ iv _ => mL - (intOf iv).toNat)
                  case atStart => exact ⟨0, u2, Nat.zero_le _, huZ, by first | rfl | go_num, rfl, hBr, hJ0⟩
                  case round =>
                    clear hBr hJ0
                    obtain ⟨q, u3, hq, huZ, rfl, rfl, hBx, hJ⟩ := hrel
                    have bX : Blk wr y _ _ := (hBx.out.block y bA.out.lt).trans bA.out
                    have yi := bX.cell (i := 7) rfl
                    have yl := bX.lt
                    by_cases hlq : q < mL
                    · skip
                      have hq1 : (0 : Int) ≤ (q : Int) := by omega
                      have hq2 : (q : Int) < (mL : Int) := by omega
                      obtain ⟨B2, o2, rfl, hBl2, hrw2⟩ := hsL2.out.2.2 (by rw [hNL.out]; omega)
                      have hrd2 := rw_drop q htL.out (by rw [hNL.out]; omega) hrw2
                      have htd2 := ty_drop q htL.out
                      have hwd2 := wt_drop q L
                      have hpd2 : 0 < (L.drop q).len := by rw [drop_len, hNL.out]; omega
                      have hnx2 := drop_tl q L
                      have hJ2 := hJ.out
                      rw [show szT 6 = 1 from rfl, Nat.mul_one] at hrd2
                      obtain ⟨x1, r1, hfd2, htx, _⟩ := at_list htd2 hpd2
                      rw [hfd2] at hrd2 hnx2 hJ2 hwd2
                      have hnx3 : r1 = L.drop (q + 1) := hnx2
                      simp only [wt] at hwd2
                      simp only [byF] at hJ2
                      rw [hnx3] at hJ2
                      have hwx := hwL.out
                      obtain ⟨⟨Ax, cx, ex, hsx⟩, _⟩ := rw_row.1 hrd2
                      have hcx := fun W9 (hb : Below w2.heap.size w2 W9) => hn.1 x1 (by omega) htx (by omega) W9 Ax cx (hsx.below hb)
                      obtain ⟨a, ha⟩ : ∃ a, byF x1 = a := ⟨_, rfl⟩
                      rw [ha] at hJ2
                      have hcx2 := fun W9 (hb : Below w2.heap.size w2 W9) => (show Calls Tryz.prog 22 #[.slice Ax x1.len cx] W9 fun e w' => e = .returned (.int .i64 (a : Int)) ∧ Below W9.heap.size W9 w' by rw [← ha]; exact hcx W9 hb)
                      generalize x1.len = mx at hcx2 ex
                      replace hcx2 := Lib.hid hcx2
                      have hJE : Hid (u3 + a + byF (L.drop (q + 1)) + (byF C) + D = Z) := Lib.hid (by omega)
                      have hub : u3 + a ≤ Z := by omega
                      have ex2 := cell_below hBx.out hBl2 ex
                      have hl2 : B2 < wr.heap.size := Nat.lt_of_lt_of_le hBl2 hBx.out.size
                      have hc := hcx2.out wr hBx.out
                      clear hrw2 hrd2 htd2 hwd2 hpd2 hnx2 hJ2 hfd2 hnx3 hsx ha hJ ex hcx htx hwx bX hcx2
                      go_wp2_with fail
                      refine hc.mono ?_
                      rintro e w5 ⟨rfl, hb5⟩
                      have hBE := Lib.hid (hBx.out.trans (hb5.mono hBx.out.size))
                      clear hc hb5 ex2 hl2 hBl2 hBx yi yl
                      go_wp2
                      go_roundw
                      case rel => exact ⟨q + 1, u3 + a, by omega, hub, by go_num, by go_num, hBE, hJE⟩
                      case measure => simp [intOf]; omega
                    · skip
                      obtain rfl : q = mL := by omega
                      have hq3 : ¬ (q : Int) < (q : Int) := by omega
                      have hJn : Hid (u3 + (byF C) + D = Z) := Lib.hid (by have hJ2 := hJ.out; rw [drop_end L hNL.out.symm] at hJ2; simp only [byF] at hJ2; omega)
                      have hBr := hBx
                      clear hJ hBx bX hlq
                      go_wp2
                      clear yi yl hq3
                      have hJ0 : Hid (u3 + byF (C.drop 0) + (0) + D = Z) := Lib.hid (by have := hJn.out; simp only [F.drop]; omega)
                      clear hJn
                      go_loopw [3, 10] (fun nv iv wr => ∃ p u : Nat, p ≤ mC ∧ u ≤ Z ∧ nv = .int .i64 (u : Int) ∧ iv = .int .i64 (p : Int) ∧ Hid (Below w2.heap.size w2 wr) ∧ Hid (u + byF (C.drop p) + (0) + D = Z)) (fun _ iv _ => mC - (intOf iv).toNat)
                      case atStart => exact ⟨0, u3, Nat.zero_le _, huZ, by first | rfl | go_num, rfl, hBr, hJ0⟩
                      case round =>
                        clear hBr hJ0
                        obtain ⟨p, u4, hq, huZ, rfl, rfl, hBx, hJ⟩ := hrel
                        have bX : Blk wr y _ _ := (hBx.out.block y bA.out.lt).trans bA.out
                        have yi := bX.cell (i := 8) rfl
                        have yl := bX.lt
                        by_cases hlq : p < mC
                        · skip
                          have hq1 : (0 : Int) ≤ (p : Int) := by omega
                          have hq2 : (p : Int) < (mC : Int) := by omega
                          obtain ⟨B2, o2, rfl, hBl2, hrw2⟩ := hsC2.out.2.2 (by rw [hNC.out]; omega)
                          have hrd2 := rw_drop p htC.out (by rw [hNC.out]; omega) hrw2
                          have htd2 := ty_drop p htC.out
                          have hwd2 := wt_drop p C
                          have hpd2 : 0 < (C.drop p).len := by rw [drop_len, hNC.out]; omega
                          have hnx2 := drop_tl p C
                          have hJ2 := hJ.out
                          rw [show szT 4 = 2 from rfl] at hrd2
                          obtain ⟨W1, Y1, r1, hfd2, htW1, htY1, _⟩ := at_case htd2 hpd2
                          rw [hfd2] at hrd2 hnx2 hJ2 hwd2
                          have hnx3 : r1 = C.drop (p + 1) := hnx2
                          simp only [wt] at hwd2
                          simp only [byF] at hJ2
                          rw [hnx3] at hJ2
                          have hwx := hwC.out
                          obtain ⟨⟨Ax, cx, ex, hsx⟩, ⟨Ay, cy, ey, hsy⟩, _⟩ := rw_case.1 hrd2
                          have hcy := fun W9 (hb : Below w2.heap.size w2 W9) => hn.1 Y1 (by omega) htY1 (by omega) W9 Ay cy (hsy.below hb)
                          obtain ⟨a, ha⟩ : ∃ a, byF Y1 = a := ⟨_, rfl⟩
                          rw [ha] at hJ2
                          have hcy2 := fun W9 (hb : Below w2.heap.size w2 W9) => (show Calls Tryz.prog 22 #[.slice Ay Y1.len cy] W9 fun e w' => e = .returned (.int .i64 (a : Int)) ∧ Below W9.heap.size W9 w' by rw [← ha]; exact hcy W9 hb)
                          generalize Y1.len = my at hcy2 ey
                          replace hcy2 := Lib.hid hcy2
                          have hmx := hsx.1
                          have hcmx := hsx.2.1
                          unfold maxLen at hcmx
                          have hwW1 : Hid (wt W1 < n0 ∧ wt W1 ≤ 1048576) := Lib.hid (by omega)
                          obtain ⟨mx, hNx⟩ : ∃ N, W1.len = N := ⟨_, rfl⟩
                          rw [hNx] at hmx ex
                          replace hNx := Lib.hid hNx
                          replace hsx := Lib.hid hsx
                          replace htW1 := Lib.hid htW1
                          have hSx := fun W9 (hb : Below w2.heap.size w2 W9) => (⟨(show Blk W9 y _ _ from (hb.block y bA.out.lt).trans bA.out).cell (i := 8) rfl, (show Blk W9 y _ _ from (hb.block y bA.out.lt).trans bA.out).lt, cell_below hb hBl2 ex, cell_below hb hBl2 ey, Nat.lt_of_lt_of_le hBl2 hb.size⟩ : W9.cell? ⟨y, 8, none⟩ = some (.slice (some ⟨B2, o2, none⟩) mC cC) ∧ y < W9.heap.size ∧ W9.cell? ⟨B2, o2 + p * 2, none⟩ = some (.slice Ax mx cx) ∧ W9.cell? ⟨B2, o2 + p * 2 + 1, none⟩ = some (.slice Ay my cy) ∧ B2 < W9.heap.size)
                          replace hSx := Lib.hid hSx
                          have hJ0 : Hid (u4 + byF (W1.drop 0) + a + byF (C.drop (p + 1)) + D = Z) := Lib.hid (by show u4 + byF W1 + a + byF (C.drop (p + 1)) + D = Z; omega)
                          have hBr := hBx
                          clear hrw2 hrd2 htd2 hwd2 hpd2 hnx2 hJ2 hfd2 hnx3 ha hJ ex ey hcy hwx hsy htY1 bX hBl2 hBx
                          go_wp2
                          clear yi yl
                          go_loopw [3, 11] (fun nv iv wr => ∃ q u : Nat, q ≤ mx ∧ u ≤ Z ∧ nv = .int .i64 (u : Int) ∧ iv = .int .i64 (q : Int) ∧ Hid (Below w2.heap.size w2 wr) ∧ Hid (u + byF (W1.drop q) + a + byF (C.drop (p + 1)) + D = Z)) (fun _ iv _ => mx - (intOf iv).toNat)
                          case atStart => exact ⟨0, u4, Nat.zero_le _, huZ, rfl, rfl, hBr, hJ0⟩
                          case round =>
                            clear hBr hJ0
                            obtain ⟨q, u, hqx, huZ2, rfl, rfl, hBx, hJ⟩ := hrel
                            obtain ⟨z0, z1, z2, z3, z4⟩ := hSx.out wr hBx.out
                            by_cases hlx : q < mx
                            · have hq3 : (0 : Int) ≤ (q : Int) := by omega
                              have hq4 : (q : Int) < (mx : Int) := by omega
                              obtain ⟨B3, o3, rfl, hBl3, hrw3⟩ := hsx.out.2.2 (by rw [hNx.out]; omega)
                              have hrd3 := rw_drop q htW1.out (by rw [hNx.out]; omega) hrw3
                              have htd3 := ty_drop q htW1.out
                              have hwd3 := wt_drop q W1
                              have hpd3 : 0 < (W1.drop q).len := by rw [drop_len, hNx.out]; omega
                              have hnx3 := drop_tl q W1
                              have hJ2 := hJ.out
                              rw [show szT 5 = 1 from rfl, Nat.mul_one] at hrd3
                              obtain ⟨x1, r1', hfd3, htx1, _⟩ := at_word htd3 hpd3
                              rw [hfd3] at hrd3 hnx3 hJ2 hwd3
                              have hnx4 : r1' = W1.drop (q + 1) := hnx3
                              simp only [wt] at hwd3
                              simp only [byF] at hJ2
                              rw [hnx4] at hJ2
                              have hwx := hwW1.out
                              obtain ⟨⟨A3, c3, e3, hs3⟩, _⟩ := rw_row.1 hrd3
                              have hc := hn.2 x1 (by omega) htx1 (by omega) wr A3 c3 (hs3.below hBx.out)
                              have e4 := cell_below hBx.out hBl3 e3
                              have hl3 : B3 < wr.heap.size := Nat.lt_of_lt_of_le hBl3 hBx.out.size
                              obtain ⟨a3, ha3⟩ : ∃ a, byF x1 = a := ⟨_, rfl⟩
                              rw [ha3] at hJ2 hc
                              generalize x1.len = m3 at hc e4
                              have hJE : Hid (u + a3 + byF (W1.drop (q + 1)) + a + byF (C.drop (p + 1)) + D = Z) := Lib.hid (by omega)
                              have hub : u + a3 ≤ Z := by omega
                              clear hrw3 hrd3 htd3 hwd3 hpd3 hnx3 hJ2 hfd3 hnx4 hs3 ha3 hJ e3 htx1 hwx
                              go_wp2_with fail
                              refine hc.mono ?_
                              rintro e w5 ⟨rfl, hb5⟩
                              have hBE := Lib.hid (hBx.out.trans (hb5.mono hBx.out.size))
                              clear hc hb5 e4 hl3 hBl3 hBx z0 z1 z2 z3 z4
                              go_wp2
                              go_roundw
                              case rel => exact ⟨q + 1, u + a3, by omega, hub, by go_num, by go_num, hBE, hJE⟩
                              case measure => simp [intOf]; omega
                            · obtain rfl : q = mx := by omega
                              have hq5 : ¬ (q : Int) < (q : Int) := by omega
                              have hJ2 := hJ.out
                              rw [drop_end W1 hNx.out.symm] at hJ2
                              simp only [byF] at hJ2
                              have hJE : Hid (u + a + byF (C.drop (p + 1)) + (0) + D = Z) := Lib.hid (by omega)
                              have hub : u + a ≤ Z := by omega
                              have hc := hcy2.out wr hBx.out
                              clear hJ hJ2 hlx
                              go_wp2_with fail
                              refine hc.mono ?_
                              rintro e w5 ⟨rfl, hb5⟩
                              have hBE := Lib.hid (hBx.out.trans (hb5.mono hBx.out.size))
                              clear hc hb5 hBx z0 z1 z2 z3 z4 hcy2
                              go_wp2
                              go_roundw
                              case rel => exact ⟨p + 1, u + a, by omega, hub, by go_num, by go_num, hBE, hJE⟩
                              case measure => simp [intOf]; omega
                        · skip
                          obtain rfl : p = mC := by omega
                          have hq3 : ¬ (p : Int) < (p : Int) := by omega
                          have hJn : Hid (u4 + (0) + D = Z) := Lib.hid (by have hJ2 := hJ.out; rw [drop_end C hNC.out.symm] at hJ2; simp only [byF] at hJ2; omega)
                          have hBr := hBx
                          clear hJ hBx bX hlq
                          have hBE := Lib.hid (hB2.out.trans (hBr.out.mono hB2.out.size))
                          have hE : Hid (u4 + byF (f.drop (j + 1)) = Z) := Lib.hid (by rw [hD.out]; have := hJn.out; omega)
                          clear hBr hJn
                          go_wp2
                          go_roundw
                          case rel => exact ⟨j + 1, u4, by omega, huZ, rfl, by go_num, hBE, hE⟩
                          case measure => simp [intOf]; omega
    · obtain rfl : j = N := by omega
      have hj3 : ¬ (j : Int) < (j : Int) := by omega
      have hI2 := hI.out
      rw [drop_end f hN.out.symm] at hI2
      obtain rfl : s = Z := by simpa [byF] using hI2
      clear hI hI2
      go_wp2
      go_ret
      exact ⟨rfl, hB.out⟩
end
theorem bytesOk : ∀ n, BytesOk n := fun n => by
  induction n with
  | zero => exact ⟨fun f h => absurd h (Nat.not_lt_zero _), fun f h => absurd h (Nat.not_lt_zero _)⟩
  | succ n ih => exact ⟨fun f hf ht hK W A c h => r_Bytes ih ht (by omega) hK h, fun f hf ht hK W A c h => r_wordBytes ih ht (by omega) hK h⟩
theorem Bytes_any {f : F} {W : World} {A : Option Addr} {c : Nat} (ht : Ty f 0) (hK : wt f ≤ 1048576) (h : Slc W A c f) : Calls Tryz.prog 22 #[.slice A f.len c] W fun e w' => e = .returned (.int .i64 (byF f : Int)) ∧ Below W.heap.size W w' := (bytesOk (wt f + 1)).1 f (Nat.lt_succ_self _) ht hK W A c h
/-- Few enough. -/
def fewB (f : F) : Bool := decide (szF f ≤ 300) && decide (dpF f ≤ 40) && decide (byF f ≤ 2000)
set_option maxRecDepth 100000 in
theorem Few_any {f : F} {w : World} {A : Option Addr} {c : Nat} (ht : Ty f 0) (hK : wt f ≤ 1048576) (h : Slc w A c f) :
    Calls Tryz.prog 7 #[.slice A f.len c] w fun e w' => e = .returned (.bool (fewB f)) ∧ Below w.heap.size w w' := by
  have h1 := rSize_any ht hK h
  have h2 := fun W (hb : Below w.heap.size w W) => rDeep_any ht hK (h.below hb)
  have h3 := fun W (hb : Below w.heap.size w W) => Bytes_any ht hK (h.below hb)
  obtain ⟨X, hX⟩ : ∃ X, fewB f = X := ⟨_, rfl⟩
  rw [hX]
  unfold fewB at hX
  have q1 := Nat.le_trans (sz_wt f) hK
  have q2 := Nat.le_trans (dp_wt f) hK
  have q3 := Nat.le_trans (by_wt f) hK
  generalize szF f = s at h1 hX q1
  generalize dpF f = d at h2 hX q2
  generalize byF f = b at h3 hX q3
  generalize f.len = m at h1 h2 h3 ⊢
  replace h2 := Lib.hid h2
  replace h3 := Lib.hid h3
  clear h ht hK
  go_enter Tryz.func7, Tryz.ntmps7
  go_wp2_with fail
  refine h1.mono ?_
  rintro e w1 ⟨rfl, hb1⟩
  clear h1
  by_cases c1 : s ≤ 300
  · have i1 : (s : Int) ≤ 300 := by omega
    have hc := h2.out w1 hb1
    replace hb1 := Lib.hid hb1
    go_wp2_with fail
    refine hc.mono ?_
    rintro e w2 ⟨rfl, hb2⟩
    have hb3 := hb1.out.trans (hb2.mono hb1.out.size)
    clear hc hb2 hb1
    by_cases c2 : d ≤ 40
    · have i2 : (d : Int) ≤ 40 := by omega
      have hc := h3.out w2 hb3
      replace hb3 := Lib.hid hb3
      go_wp2_with fail
      refine hc.mono ?_
      rintro e w3 ⟨rfl, hb4⟩
      have hb5 := Lib.hid (hb3.out.trans (hb4.mono hb3.out.size))
      clear hc hb4 hb3
      by_cases c3 : b ≤ 2000
      · have i3 : (b : Int) ≤ 2000 := by omega
        obtain rfl : X = true := by rw [← hX]; simp [c1, c2, c3]
        clear hX
        go_wp2
        go_ret
        exact ⟨rfl, hb5.out⟩
      · have i3 : ¬ (b : Int) ≤ 2000 := by omega
        have i4 : decide ((b : Int) ≤ 2000) = false := decide_eq_false i3
        obtain rfl : X = false := by rw [← hX]; simp [c3]
        clear hX
        go_wp2
        go_ret
        exact ⟨rfl, hb5.out⟩
    · have i2 : ¬ (d : Int) ≤ 40 := by omega
      obtain rfl : X = false := by rw [← hX]; simp [c2]
      replace hb3 := Lib.hid hb3
      clear hX
      go_wp2
      go_ret
      exact ⟨rfl, hb3.out⟩
  · have i1 : ¬ (s : Int) ≤ 300 := by omega
    obtain rfl : X = false := by rw [← hX]; simp [c1]
    replace hb1 := Lib.hid hb1
    clear hX
    go_wp2
    go_ret
    exact ⟨rfl, hb1.out⟩
end Go.Proofs.YtmchfoedjajbdaaGreat
