/-
  whelkref12's Size and size, Deep and deep: how many commands and pieces, and how many in one another. Conditions: not too great.
-/
import Derived.IntWalk
import Derived.Test.YtmchfoedjajbdaaGreatZq1
set_option linter.unusedSimpArgs false
set_option linter.unusedVariables false
namespace Go.Proofs.YtmchfoedjajbdaaGreat
open Go Go.RowKit Go.ChangeMaps

theorem max_val (s a b : Nat) (hs : s ≤ 4194304) (ha : a ≤ 4194304) (hb : b ≤ 4194304) : (if (s : Int) < IntKind.i64.wrap (1 + if a < b then (b : Int) else (a : Int)) then IntKind.i64.wrap (1 + if a < b then (b : Int) else (a : Int)) else (s : Int)) = ((max s (1 + max a b) : Nat) : Int) := by
  rw [IntWalk.i64_in _ (by split <;> omega)]
  by_cases h : a < b
  · rw [if_pos h]; split <;> omega
  · rw [if_neg h]; split <;> omega
theorem max_val2 (u a : Nat) : (if u < a then (a : Int) else (u : Int)) = ((max u a : Nat) : Int) := by split <;> omega
theorem max_val3 (s v : Nat) : (if (s : Int) < (v : Int) + 1 then (v : Int) + 1 else (s : Int)) = ((max s (v + 1) : Nat) : Int) := by split <;> omega
theorem dpF_tl (f : F) : dpF f.tl ≤ dpF f := by cases f <;> (unfold F.tl; simp only [dpF]; omega)
def SizeOk (n : Nat) : Prop :=
  (∀ f, wt f < n → Ty f 0 → wt f ≤ 1048576 → ∀ W A c, Slc W A c f → Calls Tryz.prog 12 #[.slice A f.len c] W fun e w' => e = .returned (.int .i64 (szF f : Int)) ∧ Below W.heap.size W w') ∧
  (∀ f, wt f < n → Ty f 1 → wt f ≤ 1048576 → ∀ W A c, Slc W A c f → Calls Tryz.prog 29 #[.slice A f.len c] W fun e w' => e = .returned (.int .i64 (szF f : Int)) ∧ Below W.heap.size W w')
def DeepOk (n : Nat) : Prop :=
  (∀ f, wt f < n → Ty f 0 → wt f ≤ 1048576 → ∀ W A c, Slc W A c f → Calls Tryz.prog 14 #[.slice A f.len c] W fun e w' => e = .returned (.int .i64 (dpF f : Int)) ∧ Below W.heap.size W w') ∧
  (∀ f, wt f < n → Ty f 1 → wt f ≤ 1048576 → ∀ W A c, Slc W A c f → Calls Tryz.prog 31 #[.slice A f.len c] W fun e w' => e = .returned (.int .i64 (dpF f : Int)) ∧ Below W.heap.size W w')
section
variable {n0 : Nat} {w : World} {A : Option Addr} {c0 : Nat} {f g : F}
set_option maxRecDepth 100000 in
set_option maxHeartbeats 8000000 in
theorem r_size (hn : SizeOk n0) (ht : Ty f 1) (hw : wt f ≤ n0) (hK : wt f ≤ 1048576) (h : Slc w A c0 f) :
    Calls Tryz.prog 29 #[.slice A f.len c0] w fun e w' => e = .returned (.int .i64 (szF f : Int)) ∧ Below w.heap.size w w' := by
  have hm := h.1
  have hcm := h.2.1
  unfold maxLen at hcm
  obtain ⟨N, hN⟩ : ∃ N, f.len = N := ⟨_, rfl⟩
  obtain ⟨Z, hZ⟩ : ∃ Z, szF f = Z := ⟨_, rfl⟩
  have hZb : Z ≤ 1048576 := by rw [← hZ]; exact Nat.le_trans (sz_wt f) hK
  rw [hN] at hm ⊢
  rw [hZ]
  have hI0 : Hid (0 + szF (f.drop 0) = Z) := Lib.hid (by rw [Nat.zero_add]; exact hZ)
  have hB0 : Hid (Below w.heap.size w w) := Lib.hid (Below.refl _ _)
  replace h := Lib.hid h
  replace ht := Lib.hid ht
  replace hw := Lib.hid hw
  replace hK := Lib.hid hK
  replace hN := Lib.hid hN
  replace hZ := Lib.hid hZ
  go_enter Tryz.func29, Tryz.ntmps29
  go_wp2
  go_loopw [3, 4] (fun nv iv wr => ∃ j s : Nat, j ≤ N ∧ s ≤ Z ∧ nv = .int .i64 (s : Int) ∧ iv = .int .i64 (j : Int) ∧ Hid (Below w.heap.size w wr) ∧ Hid (s + szF (f.drop j) = Z)) (fun _ iv _ => N - (intOf iv).toNat)
  case atStart => exact ⟨0, 0, Nat.zero_le _, Nat.zero_le _, rfl, rfl, hB0, hI0⟩
  case round =>
    clear hB0 hI0
    obtain ⟨j, s, hj, hsZ, rfl, rfl, hB, hI⟩ := hrel
    by_cases hlt : j < N
    · have hj1 : (0 : Int) ≤ (j : Int) := by omega
      have hj2 : (j : Int) < (N : Int) := by omega
      obtain ⟨B, o, rfl, hBl, hrw⟩ := h.out.2.2 (by rw [hN.out]; omega)
      have hrd := rw_drop j ht.out (by rw [hN.out]; omega) hrw
      have htd := ty_drop j ht.out
      have hwd := wt_drop j f
      have hpd : 0 < (f.drop j).len := by rw [drop_len, hN.out]; omega
      have hnx := drop_tl j f
      obtain ⟨k, t, p, c, K, Y, r, hfd, _, _, htK, htY, _⟩ := at_piece htd hpd
      have hI2 := hI.out
      rw [hfd] at hrd hnx hI2 hwd
      have hnx2 : r = f.drop (j + 1) := hnx
      rw [show szT 1 = 6 from rfl] at hrd
      simp only [wt] at hwd
      simp only [szF] at hI2
      obtain ⟨_, _, _, _, ⟨AK, cK, e4, hsK⟩, ⟨AY, cY, e5, hsY⟩, _⟩ := rw_piece.1 hrd
      have hwf := hw.out
      have hKf := hK.out
      have hcK := fun W (hb : Below w.heap.size w W) => hn.2 K (by omega) htK (by omega) W AK cK (hsK.below hb)
      have hcY := fun W (hb : Below w.heap.size w W) => hn.1 Y (by omega) htY (by omega) W AY cY (hsY.below hb)
      obtain ⟨a, ha⟩ : ∃ a, szF K = a := ⟨_, rfl⟩
      obtain ⟨b, hb⟩ : ∃ b, szF Y = b := ⟨_, rfl⟩
      rw [ha] at hI2
      rw [hb] at hI2
      have hcK2 := fun W (hb : Below w.heap.size w W) => (show Calls Tryz.prog 29 #[.slice AK K.len cK] W fun e w' => e = .returned (.int .i64 (a : Int)) ∧ Below W.heap.size W w' by rw [← ha]; exact hcK W hb)
      have hcY2 := fun W (hb2 : Below w.heap.size w W) => (show Calls Tryz.prog 12 #[.slice AY Y.len cY] W fun e w' => e = .returned (.int .i64 (b : Int)) ∧ Below W.heap.size W w' by rw [← hb]; exact hcY W hb2)
      generalize K.len = mK at e4 hcK2
      generalize Y.len = mY at e5 hcY2
      rw [hnx2] at hI2
      have hE : Hid ((s + 1 + a + b) + szF (f.drop (j + 1)) = Z) := Lib.hid (by omega)
      have hsb : s + 1 + a + b ≤ Z := by omega
      have w1 : IntKind.i64.wrap ((s : Int) + 1) = (s : Int) + 1 := IntWalk.i64_in _ (by omega)
      have w2 : IntKind.i64.wrap ((s : Int) + 1 + (a : Int)) = (s : Int) + 1 + (a : Int) := IntWalk.i64_in _ (by omega)
      have w3 : IntKind.i64.wrap ((s : Int) + 1 + (a : Int) + (b : Int)) = (s : Int) + 1 + (a : Int) + (b : Int) := IntWalk.i64_in _ (by omega)
      have hS := fun W (hb : Below w.heap.size w W) => (⟨cell_below hb hBl e4, cell_below hb hBl e5⟩ : W.cell? ⟨B, o + j * 6 + 4, none⟩ = some (.slice AK mK cK) ∧ W.cell? ⟨B, o + j * 6 + 5, none⟩ = some (.slice AY mY cY))
      replace hS := Lib.hid hS
      replace hcK2 := Lib.hid hcK2
      replace hcY2 := Lib.hid hcY2
      have q4 := (hS.out wr hB.out).1
      have q5 := (hS.out wr hB.out).2
      have hl : B < wr.heap.size := Nat.lt_of_lt_of_le hBl hB.out.size
      clear hrw hrd htd hwd hpd hnx hfd hnx2 hI2 e4 e5 hsK hsY hcK hcY ha hb hI hwf hKf htK htY hBl
      go_upto_region 5 with fail
      clear q4 q5 hl
      have hb0 := hB.out.trans ((drewN_below wr 1).mono hB.out.size)
      have hk0 := hS.out wr.drew hb0
      go_region_held3 (fun W => W.cell? ⟨B, o + j * 6 + 4, none⟩ = some (.slice AK mK cK) ∧ W.cell? ⟨B, o + j * 6 + 5, none⟩ = some (.slice AY mY cY))
        (first | go_keep | exact hk0 | exact hk1 | exact hk2)
        (first
          | (go_at_call 29; refine (hcK2.out _ hb0).mono ?_; rintro e w5 ⟨rfl, hc⟩; have hb1 := hb0.trans (hc.mono hb0.size); have hk1 := hS.out w5 hb1; clear hc)
          | (go_at_call 12; refine (hcY2.out _ hb1).mono ?_; rintro e w6 ⟨rfl, hc⟩; have hb2 := hb1.trans (hc.mono hb1.size); have hk2 := hS.out w6 hb2; clear hc))
      have hBE := Lib.hid hb2
      clear hk0 hk1 hk2 hb0 hb1 hb2 hS hcK2 hcY2 w1 w2 w3
      go_wp2
      go_roundw
      case rel => exact ⟨j + 1, s + 1 + a + b, by omega, hsb, by go_num, by go_num, hBE, hE⟩
      case measure => simp [intOf]; omega
    · obtain rfl : j = N := by omega
      have hj3 : ¬ (j : Int) < (j : Int) := by omega
      have hI2 := hI.out
      rw [drop_end f hN.out.symm] at hI2
      obtain rfl : s = Z := by simpa [szF] using hI2
      clear hI hI2
      go_wp2
      go_ret
      exact ⟨rfl, hB.out⟩
set_option maxRecDepth 100000 in
set_option maxHeartbeats 8000000 in
theorem r_deep (hn : DeepOk n0) (ht : Ty f 1) (hw : wt f ≤ n0) (hK : wt f ≤ 1048576) (h : Slc w A c0 f) :
    Calls Tryz.prog 31 #[.slice A f.len c0] w fun e w' => e = .returned (.int .i64 (dpF f : Int)) ∧ Below w.heap.size w w' := by
  have hm := h.1
  have hcm := h.2.1
  unfold maxLen at hcm
  obtain ⟨N, hN⟩ : ∃ N, f.len = N := ⟨_, rfl⟩
  obtain ⟨Z, hZ⟩ : ∃ Z, dpF f = Z := ⟨_, rfl⟩
  have hZb : Z ≤ 1048576 := by rw [← hZ]; exact Nat.le_trans (dp_wt f) hK
  rw [hN] at hm ⊢
  rw [hZ]
  have hI0 : Hid (max 0 (dpF (f.drop 0)) = Z) := Lib.hid (by rw [Nat.zero_max]; exact hZ)
  have hB0 : Hid (Below w.heap.size w w) := Lib.hid (Below.refl _ _)
  replace h := Lib.hid h
  replace ht := Lib.hid ht
  replace hw := Lib.hid hw
  replace hK := Lib.hid hK
  replace hN := Lib.hid hN
  replace hZ := Lib.hid hZ
  go_enter Tryz.func31, Tryz.ntmps31
  go_wp2
  go_loopw [3, 4] (fun nv iv wr => ∃ j s : Nat, j ≤ N ∧ s ≤ Z ∧ nv = .int .i64 (s : Int) ∧ iv = .int .i64 (j : Int) ∧ Hid (Below w.heap.size w wr) ∧ Hid (max s (dpF (f.drop j)) = Z)) (fun _ iv _ => N - (intOf iv).toNat)
  case atStart => exact ⟨0, 0, Nat.zero_le _, Nat.zero_le _, rfl, rfl, hB0, hI0⟩
  case round =>
    clear hB0 hI0
    obtain ⟨j, s, hj, hsZ, rfl, rfl, hB, hI⟩ := hrel
    by_cases hlt : j < N
    · have hj1 : (0 : Int) ≤ (j : Int) := by omega
      have hj2 : (j : Int) < (N : Int) := by omega
      obtain ⟨B, o, rfl, hBl, hrw⟩ := h.out.2.2 (by rw [hN.out]; omega)
      have hrd := rw_drop j ht.out (by rw [hN.out]; omega) hrw
      have htd := ty_drop j ht.out
      have hwd := wt_drop j f
      have hpd : 0 < (f.drop j).len := by rw [drop_len, hN.out]; omega
      have hnx := drop_tl j f
      obtain ⟨k, t, p, c, K, Y, r, hfd, _, _, htK, htY, _⟩ := at_piece htd hpd
      have hI2 := hI.out
      rw [hfd] at hrd hnx hI2 hwd
      have hnx2 : r = f.drop (j + 1) := hnx
      rw [show szT 1 = 6 from rfl] at hrd
      simp only [wt] at hwd
      simp only [dpF] at hI2
      obtain ⟨_, _, _, _, ⟨AK, cK, e4, hsK⟩, ⟨AY, cY, e5, hsY⟩, _⟩ := rw_piece.1 hrd
      have hwf := hw.out
      have hKf := hK.out
      have hcK := fun W (hb : Below w.heap.size w W) => hn.2 K (by omega) htK (by omega) W AK cK (hsK.below hb)
      have hcY := fun W (hb : Below w.heap.size w W) => hn.1 Y (by omega) htY (by omega) W AY cY (hsY.below hb)
      obtain ⟨a, ha⟩ : ∃ a, dpF K = a := ⟨_, rfl⟩
      obtain ⟨b, hb⟩ : ∃ b, dpF Y = b := ⟨_, rfl⟩
      rw [ha] at hI2
      rw [hb] at hI2
      have hcK2 := fun W (hb : Below w.heap.size w W) => (show Calls Tryz.prog 31 #[.slice AK K.len cK] W fun e w' => e = .returned (.int .i64 (a : Int)) ∧ Below W.heap.size W w' by rw [← ha]; exact hcK W hb)
      have hcY2 := fun W (hb2 : Below w.heap.size w W) => (show Calls Tryz.prog 14 #[.slice AY Y.len cY] W fun e w' => e = .returned (.int .i64 (b : Int)) ∧ Below W.heap.size W w' by rw [← hb]; exact hcY W hb2)
      generalize K.len = mK at e4 hcK2
      generalize Y.len = mY at e5 hcY2
      rw [hnx2] at hI2
      have hE : Hid (max (max s (1 + max a b)) (dpF (f.drop (j + 1))) = Z) := Lib.hid (by omega)
      have hsb : max s (1 + max a b) ≤ Z := by omega
      have w1 : max (a : Int) (b : Int) = ((max a b : Nat) : Int) := by omega
      have w2 : IntKind.i64.wrap (1 + ((max a b : Nat) : Int)) = ((1 + max a b : Nat) : Int) := by
        rw [IntWalk.i64_in _ (by omega)]; omega
      have w3 : max (s : Int) ((1 + max a b : Nat) : Int) = ((max s (1 + max a b) : Nat) : Int) := by omega
      have hS := fun W (hb : Below w.heap.size w W) => (⟨cell_below hb hBl e4, cell_below hb hBl e5⟩ : W.cell? ⟨B, o + j * 6 + 4, none⟩ = some (.slice AK mK cK) ∧ W.cell? ⟨B, o + j * 6 + 5, none⟩ = some (.slice AY mY cY))
      replace hS := Lib.hid hS
      replace hcK2 := Lib.hid hcK2
      replace hcY2 := Lib.hid hcY2
      have q4 := (hS.out wr hB.out).1
      have q5 := (hS.out wr hB.out).2
      have hl : B < wr.heap.size := Nat.lt_of_lt_of_le hBl hB.out.size
      clear hrw hrd htd hwd hpd hnx hfd hnx2 hI2 e4 e5 hsK hsY hcK hcY ha hb hI hwf hKf htK htY hBl
      go_upto_region 5 with fail
      clear q4 q5 hl
      have hb0 := hB.out.trans ((drewN_below wr 1).mono hB.out.size)
      have hk0 := hS.out wr.drew hb0
      go_region_held3 (fun W => W.cell? ⟨B, o + j * 6 + 4, none⟩ = some (.slice AK mK cK) ∧ W.cell? ⟨B, o + j * 6 + 5, none⟩ = some (.slice AY mY cY))
        (first | go_keep | exact hk0 | exact hk1 | exact hk2)
        (first
          | (go_at_call 31; refine (hcK2.out _ hb0).mono ?_; rintro e w5 ⟨rfl, hc⟩; have hb1 := hb0.trans (hc.mono hb0.size); have hk1 := hS.out w5 hb1; clear hc)
          | (go_at_call 14; refine (hcY2.out _ hb1).mono ?_; rintro e w6 ⟨rfl, hc⟩; have hb2 := hb1.trans (hc.mono hb1.size); have hk2 := hS.out w6 hb2; clear hc))
      have hBE := Lib.hid hb2
      clear hk0 hk1 hk2 hb0 hb1 hb2 hS hcK2 hcY2 w1 w2 w3
      go_wp2
      go_roundw
      case rel => exact ⟨j + 1, max s (1 + max a b), by omega, hsb, congrArg (Value.int .i64) (max_val s a b (by omega) (by omega) (by omega)), by go_num, hBE, hE⟩
      case measure => simp [intOf]; omega
    · obtain rfl : j = N := by omega
      have hj3 : ¬ (j : Int) < (j : Int) := by omega
      have hI2 := hI.out
      rw [drop_end f hN.out.symm] at hI2
      obtain rfl : s = Z := by simpa [dpF] using hI2
      clear hI hI2
      go_wp2
      go_ret
      exact ⟨rfl, hB.out⟩
set_option maxRecDepth 100000 in
set_option maxHeartbeats 8000000 in
theorem r_sizeN (hn : SizeOk n0) (ht : Ty f 0) (hw : wt f ≤ n0) (hK : wt f ≤ 1048576) (h : Slc w A c0 f) :
    Calls Tryz.prog 12 #[.slice A f.len c0] w fun e w' => e = .returned (.int .i64 (szF f : Int)) ∧ Below w.heap.size w w' := by
  have hm := h.1
  have hcm := h.2.1
  unfold maxLen at hcm
  obtain ⟨N, hN⟩ : ∃ N, f.len = N := ⟨_, rfl⟩
  obtain ⟨Z, hZ⟩ : ∃ Z, szF f = Z := ⟨_, rfl⟩
  have hZb : Z ≤ 1048576 := by rw [← hZ]; exact Nat.le_trans (sz_wt f) hK
  rw [hN] at hm ⊢
  rw [hZ]
  have hI0 : Hid (0 + szF (f.drop 0) = Z) := Lib.hid (by rw [Nat.zero_add]; exact hZ)
  have hB0 : Hid (Below w.heap.size w w) := Lib.hid (Below.refl _ _)
  replace h := Lib.hid h
  replace ht := Lib.hid ht
  replace hw := Lib.hid hw
  replace hK := Lib.hid hK
  replace hN := Lib.hid hN
  replace hZ := Lib.hid hZ
  go_enter Tryz.func12, Tryz.ntmps12
  go_wp2
  go_loopw [3, 4] (fun nv iv wr => ∃ j s : Nat, j ≤ N ∧ s ≤ Z ∧ nv = .int .i64 (s : Int) ∧ iv = .int .i64 (j : Int) ∧ Hid (Below w.heap.size w wr) ∧ Hid (s + szF (f.drop j) = Z)) (fun _ iv _ => N - (intOf iv).toNat)
  case atStart => exact ⟨0, 0, Nat.zero_le _, Nat.zero_le _, rfl, rfl, hB0, hI0⟩
  case round =>
    clear hB0 hI0
    obtain ⟨j, s, hj, hsZ, rfl, rfl, hB, hI⟩ := hrel
    by_cases hlt : j < N
    · have hj1 : (0 : Int) ≤ (j : Int) := by omega
      have hj2 : (j : Int) < (N : Int) := by omega
      obtain ⟨B, o, rfl, hBl, hrw⟩ := h.out.2.2 (by rw [hN.out]; omega)
      have hrd := rw_drop j ht.out (by rw [hN.out]; omega) hrw
      have htd := ty_drop j ht.out
      have hwd := wt_drop j f
      have hpd : 0 < (f.drop j).len := by rw [drop_len, hN.out]; omega
      have hnx := drop_tl j f
      rw [show szT 0 = 9 from rfl] at hrd
      obtain ⟨k, b, n, g, AS, mS, cS, AW, mW, cW, AR, mR, cR, AL, mL, cL, AC, mC, cC, e0, e1, e2, e3, e4, e5, e6, e7, e8, hv⟩ := el_node hrd htd hpd
      have hwf := hw.out
      have hKf := hK.out
      have hwo := fun W (hb : Below w.heap.size w W) => words_any htd hpd (by omega) W _ (hv.below hb)
      have hli := fun W (hb : Below w.heap.size w W) => lists_any htd hpd (by omega) W _ (hv.below hb)
      have hI2 := hI.out
      obtain ⟨k9, b9, n9, g9, S, W, R, L, C, r, hfd, _⟩ := at_node htd hpd
      have htw := wordsF_ty htd
      have htl := listsF_ty htd
      rw [hfd] at htd hnx hI2 hwd hwo hli htw htl
      have hnx2 : r = f.drop (j + 1) := hnx
      have hnp := node_parts htd
      generalize wordsF (.node k9 b9 n9 g9 S W R L C r) = Wd at hwo htw hnp
      generalize listsF (.node k9 b9 n9 g9 S W R L C r) = Ls at hli htl hnp
      simp only [wt] at hwd
      simp only [szF] at hI2
      rw [hnx2] at hI2
      have hwW : Hid (wt Wd < n0 ∧ wt Wd ≤ 1048576) := Lib.hid (by omega)
      have hwL : Hid (wt Ls < n0 ∧ wt Ls ≤ 1048576) := Lib.hid (by omega)
      have hsum : Hid (s + 1 + szF Wd + szF Ls + szF (f.drop (j + 1)) = Z) := Lib.hid (by omega)
      have hS := fun W (hb : Below w.heap.size w W) => (⟨cell_below hb hBl e0, cell_below hb hBl e1, cell_below hb hBl e2, cell_below hb hBl e3, cell_below hb hBl e4, cell_below hb hBl e5, cell_below hb hBl e6, cell_below hb hBl e7, cell_below hb hBl e8⟩ : W.cell? ⟨B, o + j * 9, none⟩ = some (.int .i64 k) ∧ W.cell? ⟨B, o + j * 9 + 1, none⟩ = some (.bool b) ∧ W.cell? ⟨B, o + j * 9 + 2, none⟩ = some (.string n) ∧ W.cell? ⟨B, o + j * 9 + 3, none⟩ = some (.bool g) ∧ W.cell? ⟨B, o + j * 9 + 4, none⟩ = some (.slice AS mS cS) ∧ W.cell? ⟨B, o + j * 9 + 5, none⟩ = some (.slice AW mW cW) ∧ W.cell? ⟨B, o + j * 9 + 6, none⟩ = some (.slice AR mR cR) ∧ W.cell? ⟨B, o + j * 9 + 7, none⟩ = some (.slice AL mL cL) ∧ W.cell? ⟨B, o + j * 9 + 8, none⟩ = some (.slice AC mC cC))
      replace hS := Lib.hid hS
      replace hwo := Lib.hid hwo
      replace hli := Lib.hid hli
      replace htw := Lib.hid htw
      replace htl := Lib.hid htl
      have hbB : ∀ W, Below w.heap.size w W → B < W.heap.size := fun W hb => Nat.lt_of_lt_of_le hBl hb.size
      replace hbB := Lib.hid hbB
      clear hrw hrd hwd hpd hnx hfd hnx2 hI2 hv hI hwf hKf hBl htd hnp e0 e1 e2 e3 e4 e5 e6 e7 e8
      obtain ⟨d0, d1, d2, d3, d4, d5, d6, d7, d8⟩ := hS.out wr hB.out
      have hl := hbB.out wr hB.out
      have hc := hwo.out wr hB.out
      go_wp2_with fail
      refine hc.mono ?_
      rintro e w2 ⟨A2, c2, rfl, hs2, hb2⟩
      have hB2 := Lib.hid (hB.out.trans (hb2.mono hB.out.size))
      have hm2 := hs2.1
      have hcm2 := hs2.2.1
      unfold maxLen at hcm2
      obtain ⟨M, hM⟩ : ∃ M, Wd.len = M := ⟨_, rfl⟩
      rw [hM] at hm2 ⊢
      replace hs2 := Lib.hid hs2
      replace hM := Lib.hid hM
      clear d0 d1 d2 d3 d4 d5 d6 d7 d8 hl hc hb2 hwo hB
      have hBr : Hid (Below w2.heap.size w2 w2) := Lib.hid (Below.refl _ _)
      have hJ0 : Hid (s + 1 + 0 + szF (Wd.drop 0) = s + 1 + szF Wd) := Lib.hid (by simp [F.drop])
      go_wp2
      go_loopw [3, 6] (fun nv iv wr => ∃ q u : Nat, q ≤ M ∧ s + 1 + u ≤ Z ∧ nv = .int .i64 ((s + 1 + u : Nat) : Int) ∧ iv = .int .i64 (q : Int) ∧ Hid (Below w2.heap.size w2 wr) ∧ Hid (s + 1 + u + szF (Wd.drop q) = s + 1 + szF Wd)) (fun _ iv _ => M - (intOf iv).toNat)
      case atStart => exact ⟨0, 0, Nat.zero_le _, by have := hsum.out; omega, by go_num, rfl, hBr, hJ0⟩
      case round =>
        clear hBr hJ0
        obtain ⟨q, u, hq, huZ, rfl, rfl, hBx, hJ⟩ := hrel
        by_cases hlq : q < M
        · have hq1 : (0 : Int) ≤ (q : Int) := by omega
          have hq2 : (q : Int) < (M : Int) := by omega
          obtain ⟨B2, o2, rfl, hBl2, hrw2⟩ := hs2.out.2.2 (by rw [hM.out]; omega)
          have hrd2 := rw_drop q htw.out (by rw [hM.out]; omega) hrw2
          have htd2 := ty_drop q htw.out
          have hwd2 := wt_drop q Wd
          have hpd2 : 0 < (Wd.drop q).len := by rw [drop_len, hM.out]; omega
          have hnx2 := drop_tl q Wd
          have hJ2 := hJ.out
          rw [show szT 5 = 1 from rfl, Nat.mul_one] at hrd2
          obtain ⟨x, r2, hfd2, htx, _⟩ := at_word htd2 hpd2
          rw [hfd2] at hrd2 hnx2 hJ2 hwd2
          have hnx3 : r2 = Wd.drop (q + 1) := hnx2
          simp only [wt] at hwd2
          simp only [szF] at hJ2
          rw [hnx3] at hJ2
          obtain ⟨⟨Ax, cx, ex, hsx⟩, _⟩ := rw_row.1 hrd2
          have hcx := hn.2 x (by have := hwW.out; omega) htx (by have := hwW.out; omega) wr Ax cx (hsx.below hBx.out)
          have ex2 := cell_below hBx.out hBl2 ex
          have hl2 : B2 < wr.heap.size := Nat.lt_of_lt_of_le hBl2 hBx.out.size
          obtain ⟨a, ha⟩ : ∃ a, szF x = a := ⟨_, rfl⟩
          rw [ha] at hcx hJ2
          generalize x.len = mx at hcx ex2
          have hJE : Hid (s + 1 + (u + a) + szF (Wd.drop (q + 1)) = s + 1 + szF Wd) := Lib.hid (by omega)
          have hub : s + 1 + (u + a) ≤ Z := by have := hsum.out; omega
          clear hrw2 hrd2 htd2 hwd2 hpd2 hnx2 hJ2 hfd2 htx hnx3 hsx ha hJ ex
          go_wp2_with fail
          refine hcx.mono ?_
          rintro e w3 ⟨rfl, hb3⟩
          have hBE := Lib.hid (hBx.out.trans (hb3.mono hBx.out.size))
          clear hcx hb3 ex2 hl2 hBl2 hBx
          go_wp2
          go_roundw
          case rel => exact ⟨q + 1, u + a, by omega, hub, by go_num, by go_num, hBE, hJE⟩
          case measure => simp [intOf]; omega
        · obtain rfl : q = M := by omega
          have hq3 : ¬ (q : Int) < (q : Int) := by omega
          have hJ2 := hJ.out
          rw [drop_end Wd hM.out.symm] at hJ2
          simp only [szF] at hJ2
          have hB3 := Lib.hid (hB2.out.trans (hBx.out.mono hB2.out.size))
          obtain ⟨d0, d1, d2, d3, d4, d5, d6, d7, d8⟩ := hS.out wr hB3.out
          have hl := hbB.out wr hB3.out
          have hc := hli.out wr hB3.out
          have hJ3 := Lib.hid hJ2
          clear hJ hJ2 hB2 hBx hs2 hlq
          go_wp2_with fail
          refine hc.mono ?_
          rintro e w4 ⟨A4, c4, rfl, hs4, hb4⟩
          have hB4 := Lib.hid (hB3.out.trans (hb4.mono hB3.out.size))
          have hm4 := hs4.1
          have hcm4 := hs4.2.1
          unfold maxLen at hcm4
          obtain ⟨M4, hM4⟩ : ∃ M, Ls.len = M := ⟨_, rfl⟩
          rw [hM4] at hm4 ⊢
          replace hs4 := Lib.hid hs4
          replace hM4 := Lib.hid hM4
          clear d0 d1 d2 d3 d4 d5 d6 d7 d8 hl hc hb4 hli hB3
          have hBr : Hid (Below w4.heap.size w4 w4) := Lib.hid (Below.refl _ _)
          have hu2 : s + 1 + u = s + 1 + szF Wd := by have := hJ3.out; omega
          have hJ0 : Hid (s + 1 + u + 0 + szF (Ls.drop 0) = s + 1 + u + szF Ls) := Lib.hid (by simp [F.drop])
          have hsum2 : Hid (s + 1 + u + szF Ls + szF (f.drop (j + 1)) = Z) := Lib.hid (by have := hsum.out; omega)
          clear hu2 hJ3 hsum
          go_wp2
          go_loopw [3, 8] (fun nv iv wr => ∃ p v : Nat, p ≤ M4 ∧ s + 1 + u + v ≤ Z ∧ nv = .int .i64 ((s + 1 + u + v : Nat) : Int) ∧ iv = .int .i64 (p : Int) ∧ Hid (Below w4.heap.size w4 wr) ∧ Hid (s + 1 + u + v + szF (Ls.drop p) = s + 1 + u + szF Ls)) (fun _ iv _ => M4 - (intOf iv).toNat)
          case atStart => exact ⟨0, 0, Nat.zero_le _, by omega, by go_num, rfl, hBr, hJ0⟩
          case round =>
            clear hBr hJ0
            obtain ⟨p, v, hp, hvZ, rfl, rfl, hBx, hJ⟩ := hrel
            by_cases hlp : p < M4
            · have hq1 : (0 : Int) ≤ (p : Int) := by omega
              have hq2 : (p : Int) < (M4 : Int) := by omega
              obtain ⟨B2, o2, rfl, hBl2, hrw2⟩ := hs4.out.2.2 (by rw [hM4.out]; omega)
              have hrd2 := rw_drop p htl.out (by rw [hM4.out]; omega) hrw2
              have htd2 := ty_drop p htl.out
              have hwd2 := wt_drop p Ls
              have hpd2 : 0 < (Ls.drop p).len := by rw [drop_len, hM4.out]; omega
              have hnx2 := drop_tl p Ls
              have hJ2 := hJ.out
              rw [show szT 6 = 1 from rfl, Nat.mul_one] at hrd2
              obtain ⟨x, r2, hfd2, htx, _⟩ := at_list htd2 hpd2
              rw [hfd2] at hrd2 hnx2 hJ2 hwd2
              have hnx3 : r2 = Ls.drop (p + 1) := hnx2
              simp only [wt] at hwd2
              simp only [szF] at hJ2
              rw [hnx3] at hJ2
              obtain ⟨⟨Ax, cx, ex, hsx⟩, _⟩ := rw_row.1 hrd2
              have hcx := hn.1 x (by have := hwL.out; omega) htx (by have := hwL.out; omega) wr Ax cx (hsx.below hBx.out)
              have ex2 := cell_below hBx.out hBl2 ex
              have hl2 : B2 < wr.heap.size := Nat.lt_of_lt_of_le hBl2 hBx.out.size
              obtain ⟨a, ha⟩ : ∃ a, szF x = a := ⟨_, rfl⟩
              rw [ha] at hcx hJ2
              generalize x.len = mx at hcx ex2
              have hJE : Hid (s + 1 + u + (v + a) + szF (Ls.drop (p + 1)) = s + 1 + u + szF Ls) := Lib.hid (by omega)
              have hub : s + 1 + u + (v + a) ≤ Z := by have := hsum2.out; omega
              clear hrw2 hrd2 htd2 hwd2 hpd2 hnx2 hJ2 hfd2 htx hnx3 hsx ha hJ ex
              go_wp2_with fail
              refine hcx.mono ?_
              rintro e w3 ⟨rfl, hb3⟩
              have hBE := Lib.hid (hBx.out.trans (hb3.mono hBx.out.size))
              clear hcx hb3 ex2 hl2 hBl2 hBx
              go_wp2
              go_roundw
              case rel => exact ⟨p + 1, v + a, by omega, hub, by go_num, by go_num, hBE, hJE⟩
              case measure => simp [intOf]; omega
            · obtain rfl : p = M4 := by omega
              have hp3 : ¬ (p : Int) < (p : Int) := by omega
              have hJ2 := hJ.out
              rw [drop_end Ls hM4.out.symm] at hJ2
              simp only [szF] at hJ2
              have hBE := Lib.hid (hB4.out.trans (hBx.out.mono hB4.out.size))
              have hE : Hid ((s + 1 + u + v) + szF (f.drop (j + 1)) = Z) := Lib.hid (by have := hsum2.out; omega)
              clear hJ hJ2 hB4 hBx hs4 hsum2
              go_wp2
              go_roundw
              case rel => exact ⟨j + 1, s + 1 + u + v, by omega, hvZ, rfl, by go_num, hBE, hE⟩
              case measure => simp [intOf]; omega
    · obtain rfl : j = N := by omega
      have hj3 : ¬ (j : Int) < (j : Int) := by omega
      have hI2 := hI.out
      rw [drop_end f hN.out.symm] at hI2
      obtain rfl : s = Z := by simpa [szF] using hI2
      clear hI hI2
      go_wp2
      go_ret
      exact ⟨rfl, hB.out⟩
set_option maxRecDepth 100000 in
set_option maxHeartbeats 8000000 in
theorem r_deepN (hn : DeepOk n0) (ht : Ty f 0) (hw : wt f ≤ n0) (hK : wt f ≤ 1048576) (h : Slc w A c0 f) :
    Calls Tryz.prog 14 #[.slice A f.len c0] w fun e w' => e = .returned (.int .i64 (dpF f : Int)) ∧ Below w.heap.size w w' := by
  have hm := h.1
  have hcm := h.2.1
  unfold maxLen at hcm
  obtain ⟨N, hN⟩ : ∃ N, f.len = N := ⟨_, rfl⟩
  obtain ⟨Z, hZ⟩ : ∃ Z, dpF f = Z := ⟨_, rfl⟩
  have hZb : Z ≤ 1048576 := by rw [← hZ]; exact Nat.le_trans (dp_wt f) hK
  rw [hN] at hm ⊢
  rw [hZ]
  have hI0 : Hid (max 0 (dpF (f.drop 0)) = Z) := Lib.hid (by rw [Nat.zero_max]; exact hZ)
  have hB0 : Hid (Below w.heap.size w w) := Lib.hid (Below.refl _ _)
  replace h := Lib.hid h
  replace ht := Lib.hid ht
  replace hw := Lib.hid hw
  replace hK := Lib.hid hK
  replace hN := Lib.hid hN
  replace hZ := Lib.hid hZ
  go_enter Tryz.func14, Tryz.ntmps14
  go_wp2
  go_loopw [3, 4] (fun nv iv wr => ∃ j s : Nat, j ≤ N ∧ s ≤ Z ∧ nv = .int .i64 (s : Int) ∧ iv = .int .i64 (j : Int) ∧ Hid (Below w.heap.size w wr) ∧ Hid (max s (dpF (f.drop j)) = Z)) (fun _ iv _ => N - (intOf iv).toNat)
  case atStart => exact ⟨0, 0, Nat.zero_le _, Nat.zero_le _, rfl, rfl, hB0, hI0⟩
  case round =>
    clear hB0 hI0
    obtain ⟨j, s, hj, hsZ, rfl, rfl, hB, hI⟩ := hrel
    by_cases hlt : j < N
    · have hj1 : (0 : Int) ≤ (j : Int) := by omega
      have hj2 : (j : Int) < (N : Int) := by omega
      obtain ⟨B, o, rfl, hBl, hrw⟩ := h.out.2.2 (by rw [hN.out]; omega)
      have hrd := rw_drop j ht.out (by rw [hN.out]; omega) hrw
      have htd := ty_drop j ht.out
      have hwd := wt_drop j f
      have hpd : 0 < (f.drop j).len := by rw [drop_len, hN.out]; omega
      have hnx := drop_tl j f
      rw [show szT 0 = 9 from rfl] at hrd
      obtain ⟨k, b, n, g, AS, mS, cS, AW, mW, cW, AR, mR, cR, AL, mL, cL, AC, mC, cC, e0, e1, e2, e3, e4, e5, e6, e7, e8, hv⟩ := el_node hrd htd hpd
      have hwf := hw.out
      have hKf := hK.out
      have hwo := fun W (hb : Below w.heap.size w W) => words_any htd hpd (by omega) W _ (hv.below hb)
      have hli := fun W (hb : Below w.heap.size w W) => lists_any htd hpd (by omega) W _ (hv.below hb)
      have hI2 := hI.out
      obtain ⟨k9, b9, n9, g9, S, W, R, L, C, r, hfd, _⟩ := at_node htd hpd
      have htw := wordsF_ty htd
      have htl := listsF_ty htd
      rw [hfd] at htd hnx hI2 hwd hwo hli htw htl
      have hnx2 : r = f.drop (j + 1) := hnx
      have hnp := node_parts htd
      generalize wordsF (.node k9 b9 n9 g9 S W R L C r) = Wd at hwo htw hnp
      generalize listsF (.node k9 b9 n9 g9 S W R L C r) = Ls at hli htl hnp
      simp only [wt] at hwd
      simp only [dpF] at hI2
      rw [hnx2] at hI2
      have hwW : Hid (wt Wd < n0 ∧ wt Wd ≤ 1048576) := Lib.hid (by omega)
      have hwL : Hid (wt Ls < n0 ∧ wt Ls ≤ 1048576) := Lib.hid (by omega)
      have hsum : Hid (max (max s (max (dpF Wd) (dpF Ls) + 1)) (dpF (f.drop (j + 1))) = Z) := Lib.hid (by omega)
      have hS := fun W (hb : Below w.heap.size w W) => (⟨cell_below hb hBl e0, cell_below hb hBl e1, cell_below hb hBl e2, cell_below hb hBl e3, cell_below hb hBl e4, cell_below hb hBl e5, cell_below hb hBl e6, cell_below hb hBl e7, cell_below hb hBl e8⟩ : W.cell? ⟨B, o + j * 9, none⟩ = some (.int .i64 k) ∧ W.cell? ⟨B, o + j * 9 + 1, none⟩ = some (.bool b) ∧ W.cell? ⟨B, o + j * 9 + 2, none⟩ = some (.string n) ∧ W.cell? ⟨B, o + j * 9 + 3, none⟩ = some (.bool g) ∧ W.cell? ⟨B, o + j * 9 + 4, none⟩ = some (.slice AS mS cS) ∧ W.cell? ⟨B, o + j * 9 + 5, none⟩ = some (.slice AW mW cW) ∧ W.cell? ⟨B, o + j * 9 + 6, none⟩ = some (.slice AR mR cR) ∧ W.cell? ⟨B, o + j * 9 + 7, none⟩ = some (.slice AL mL cL) ∧ W.cell? ⟨B, o + j * 9 + 8, none⟩ = some (.slice AC mC cC))
      replace hS := Lib.hid hS
      replace hwo := Lib.hid hwo
      replace hli := Lib.hid hli
      replace htw := Lib.hid htw
      replace htl := Lib.hid htl
      have hbB : ∀ W, Below w.heap.size w W → B < W.heap.size := fun W hb => Nat.lt_of_lt_of_le hBl hb.size
      replace hbB := Lib.hid hbB
      clear hrw hrd hwd hpd hnx hfd hnx2 hI2 hv hI hwf hKf hBl htd hnp e0 e1 e2 e3 e4 e5 e6 e7 e8
      obtain ⟨d0, d1, d2, d3, d4, d5, d6, d7, d8⟩ := hS.out wr hB.out
      have hl := hbB.out wr hB.out
      have hc := hwo.out wr hB.out
      go_wp2_with fail
      refine hc.mono ?_
      rintro e w2 ⟨A2, c2, rfl, hs2, hb2⟩
      have hB2 := Lib.hid (hB.out.trans (hb2.mono hB.out.size))
      have hm2 := hs2.1
      have hcm2 := hs2.2.1
      unfold maxLen at hcm2
      obtain ⟨M, hM⟩ : ∃ M, Wd.len = M := ⟨_, rfl⟩
      rw [hM] at hm2 ⊢
      replace hs2 := Lib.hid hs2
      replace hM := Lib.hid hM
      clear d0 d1 d2 d3 d4 d5 d6 d7 d8 hl hc hb2 hwo hB
      have hBr : Hid (Below w2.heap.size w2 w2) := Lib.hid (Below.refl _ _)
      have hJ0 : Hid (max 0 (dpF (Wd.drop 0)) = dpF Wd) := Lib.hid (by simp [F.drop])
      go_wp2
      go_loopw [5, 7] (fun nv iv wr => ∃ q u : Nat, q ≤ M ∧ u ≤ Z ∧ nv = .int .i64 (u : Int) ∧ iv = .int .i64 (q : Int) ∧ Hid (Below w2.heap.size w2 wr) ∧ Hid (max u (dpF (Wd.drop q)) = dpF Wd)) (fun _ iv _ => M - (intOf iv).toNat)
      case atStart => exact ⟨0, 0, Nat.zero_le _, Nat.zero_le _, rfl, rfl, hBr, hJ0⟩
      case round =>
        clear hBr hJ0
        obtain ⟨q, u, hq, huZ, rfl, rfl, hBx, hJ⟩ := hrel
        by_cases hlq : q < M
        · have hq1 : (0 : Int) ≤ (q : Int) := by omega
          have hq2 : (q : Int) < (M : Int) := by omega
          obtain ⟨B2, o2, rfl, hBl2, hrw2⟩ := hs2.out.2.2 (by rw [hM.out]; omega)
          have hrd2 := rw_drop q htw.out (by rw [hM.out]; omega) hrw2
          have htd2 := ty_drop q htw.out
          have hwd2 := wt_drop q Wd
          have hpd2 : 0 < (Wd.drop q).len := by rw [drop_len, hM.out]; omega
          have hnx2 := drop_tl q Wd
          have hJ2 := hJ.out
          rw [show szT 5 = 1 from rfl, Nat.mul_one] at hrd2
          obtain ⟨x, r2, hfd2, htx, _⟩ := at_word htd2 hpd2
          rw [hfd2] at hrd2 hnx2 hJ2 hwd2
          have hnx3 : r2 = Wd.drop (q + 1) := hnx2
          simp only [wt] at hwd2
          simp only [dpF] at hJ2
          rw [hnx3] at hJ2
          obtain ⟨⟨Ax, cx, ex, hsx⟩, _⟩ := rw_row.1 hrd2
          have hcx := hn.2 x (by have := hwW.out; omega) htx (by have := hwW.out; omega) wr Ax cx (hsx.below hBx.out)
          have ex2 := cell_below hBx.out hBl2 ex
          have hl2 : B2 < wr.heap.size := Nat.lt_of_lt_of_le hBl2 hBx.out.size
          obtain ⟨a, ha⟩ : ∃ a, dpF x = a := ⟨_, rfl⟩
          rw [ha] at hcx hJ2
          generalize x.len = mx at hcx ex2
          have hJE : Hid (max (max u a) (dpF (Wd.drop (q + 1))) = dpF Wd) := Lib.hid (by omega)
          have hub : max u a ≤ Z := by have := hsum.out; omega
          have wm : max (u : Int) (a : Int) = ((max u a : Nat) : Int) := by omega
          clear hrw2 hrd2 htd2 hwd2 hpd2 hnx2 hJ2 hfd2 htx hnx3 hsx ha hJ ex
          go_wp2_with fail
          refine hcx.mono ?_
          rintro e w3 ⟨rfl, hb3⟩
          have hBE := Lib.hid (hBx.out.trans (hb3.mono hBx.out.size))
          clear hcx hb3 ex2 hl2 hBl2 hBx
          go_wp2
          go_roundw
          case rel => exact ⟨q + 1, max u a, by omega, hub, congrArg (Value.int .i64) (max_val2 u a), by go_num, hBE, hJE⟩
          case measure => simp [intOf]; omega
        · obtain rfl : q = M := by omega
          have hq3 : ¬ (q : Int) < (q : Int) := by omega
          have hJ2 := hJ.out
          rw [drop_end Wd hM.out.symm] at hJ2
          simp only [dpF] at hJ2
          have hB3 := Lib.hid (hB2.out.trans (hBx.out.mono hB2.out.size))
          obtain ⟨d0, d1, d2, d3, d4, d5, d6, d7, d8⟩ := hS.out wr hB3.out
          have hl := hbB.out wr hB3.out
          have hc := hli.out wr hB3.out
          have hJ3 := Lib.hid hJ2
          clear hJ hJ2 hB2 hBx hs2 hlq
          go_wp2_with fail
          refine hc.mono ?_
          rintro e w4 ⟨A4, c4, rfl, hs4, hb4⟩
          have hB4 := Lib.hid (hB3.out.trans (hb4.mono hB3.out.size))
          have hm4 := hs4.1
          have hcm4 := hs4.2.1
          unfold maxLen at hcm4
          obtain ⟨M4, hM4⟩ : ∃ M, Ls.len = M := ⟨_, rfl⟩
          rw [hM4] at hm4 ⊢
          replace hs4 := Lib.hid hs4
          replace hM4 := Lib.hid hM4
          clear d0 d1 d2 d3 d4 d5 d6 d7 d8 hl hc hb4 hli hB3
          have hBr : Hid (Below w4.heap.size w4 w4) := Lib.hid (Below.refl _ _)
          have hJ0 : Hid (max u (dpF (Ls.drop 0)) = max u (dpF Ls)) := Lib.hid (by simp [F.drop])
          have hsum2 : Hid (max (max s (max u (dpF Ls) + 1)) (dpF (f.drop (j + 1))) = Z) := Lib.hid (by have := hsum.out; have := hJ3.out; omega)
          clear hJ3 hsum
          go_wp2
          go_loopw [5, 9] (fun nv iv wr => ∃ p v : Nat, p ≤ M4 ∧ v ≤ Z ∧ nv = .int .i64 (v : Int) ∧ iv = .int .i64 (p : Int) ∧ Hid (Below w4.heap.size w4 wr) ∧ Hid (max v (dpF (Ls.drop p)) = max u (dpF Ls))) (fun _ iv _ => M4 - (intOf iv).toNat)
          case atStart => exact ⟨0, u, Nat.zero_le _, huZ, rfl, rfl, hBr, hJ0⟩
          case round =>
            clear hBr hJ0
            obtain ⟨p, v, hp, hvZ, rfl, rfl, hBx, hJ⟩ := hrel
            by_cases hlp : p < M4
            · have hq1 : (0 : Int) ≤ (p : Int) := by omega
              have hq2 : (p : Int) < (M4 : Int) := by omega
              obtain ⟨B2, o2, rfl, hBl2, hrw2⟩ := hs4.out.2.2 (by rw [hM4.out]; omega)
              have hrd2 := rw_drop p htl.out (by rw [hM4.out]; omega) hrw2
              have htd2 := ty_drop p htl.out
              have hwd2 := wt_drop p Ls
              have hpd2 : 0 < (Ls.drop p).len := by rw [drop_len, hM4.out]; omega
              have hnx2 := drop_tl p Ls
              have hJ2 := hJ.out
              rw [show szT 6 = 1 from rfl, Nat.mul_one] at hrd2
              obtain ⟨x, r2, hfd2, htx, _⟩ := at_list htd2 hpd2
              rw [hfd2] at hrd2 hnx2 hJ2 hwd2
              have hnx3 : r2 = Ls.drop (p + 1) := hnx2
              simp only [wt] at hwd2
              simp only [dpF] at hJ2
              rw [hnx3] at hJ2
              obtain ⟨⟨Ax, cx, ex, hsx⟩, _⟩ := rw_row.1 hrd2
              have hcx := hn.1 x (by have := hwL.out; omega) htx (by have := hwL.out; omega) wr Ax cx (hsx.below hBx.out)
              have ex2 := cell_below hBx.out hBl2 ex
              have hl2 : B2 < wr.heap.size := Nat.lt_of_lt_of_le hBl2 hBx.out.size
              obtain ⟨a, ha⟩ : ∃ a, dpF x = a := ⟨_, rfl⟩
              rw [ha] at hcx hJ2
              generalize x.len = mx at hcx ex2
              have hJE : Hid (max (max v a) (dpF (Ls.drop (p + 1))) = max u (dpF Ls)) := Lib.hid (by omega)
              have hub : max v a ≤ Z := by have := hsum2.out; omega
              have wm : max (v : Int) (a : Int) = ((max v a : Nat) : Int) := by omega
              clear hrw2 hrd2 htd2 hwd2 hpd2 hnx2 hJ2 hfd2 htx hnx3 hsx ha hJ ex
              go_wp2_with fail
              refine hcx.mono ?_
              rintro e w3 ⟨rfl, hb3⟩
              have hBE := Lib.hid (hBx.out.trans (hb3.mono hBx.out.size))
              clear hcx hb3 ex2 hl2 hBl2 hBx
              go_wp2
              go_roundw
              case rel => exact ⟨p + 1, max v a, by omega, hub, congrArg (Value.int .i64) (max_val2 v a), by go_num, hBE, hJE⟩
              case measure => simp [intOf]; omega
            · obtain rfl : p = M4 := by omega
              have hp3 : ¬ (p : Int) < (p : Int) := by omega
              have hJ2 := hJ.out
              rw [drop_end Ls hM4.out.symm] at hJ2
              simp only [dpF] at hJ2
              have hBE := Lib.hid (hB4.out.trans (hBx.out.mono hB4.out.size))
              have hE : Hid (max (max s (v + 1)) (dpF (f.drop (j + 1))) = Z) := Lib.hid (by have := hsum2.out; omega)
              have hub : max s (v + 1) ≤ Z := by have := hE.out; omega
              have wm : max (s : Int) ((v : Int) + 1) = ((max s (v + 1) : Nat) : Int) := by omega
              clear hJ hJ2 hB4 hBx hs4 hsum2
              go_wp2
              go_roundw
              case rel => exact ⟨j + 1, max s (v + 1), by omega, hub, congrArg (Value.int .i64) (max_val3 s v), by go_num, hBE, hE⟩
              case measure => simp [intOf]; omega
    · obtain rfl : j = N := by omega
      have hj3 : ¬ (j : Int) < (j : Int) := by omega
      have hI2 := hI.out
      rw [drop_end f hN.out.symm] at hI2
      obtain rfl : s = Z := by simpa [dpF] using hI2
      clear hI hI2
      go_wp2
      go_ret
      exact ⟨rfl, hB.out⟩
end
theorem sizeOk : ∀ n, SizeOk n := fun n => by
  induction n with
  | zero => exact ⟨fun f h => absurd h (Nat.not_lt_zero _), fun f h => absurd h (Nat.not_lt_zero _)⟩
  | succ n ih => exact ⟨fun f hf ht hK W A c h => r_sizeN ih ht (by omega) hK h, fun f hf ht hK W A c h => r_size ih ht (by omega) hK h⟩
theorem rSize_any {f : F} {W : World} {A : Option Addr} {c : Nat} (ht : Ty f 0) (hK : wt f ≤ 1048576) (h : Slc W A c f) : Calls Tryz.prog 12 #[.slice A f.len c] W fun e w' => e = .returned (.int .i64 (szF f : Int)) ∧ Below W.heap.size W w' := (sizeOk (wt f + 1)).1 f (Nat.lt_succ_self _) ht hK W A c h
theorem deepOk : ∀ n, DeepOk n := fun n => by
  induction n with
  | zero => exact ⟨fun f h => absurd h (Nat.not_lt_zero _), fun f h => absurd h (Nat.not_lt_zero _)⟩
  | succ n ih => exact ⟨fun f hf ht hK W A c h => r_deepN ih ht (by omega) hK h, fun f hf ht hK W A c h => r_deep ih ht (by omega) hK h⟩
theorem rDeep_any {f : F} {W : World} {A : Option Addr} {c : Nat} (ht : Ty f 0) (hK : wt f ≤ 1048576) (h : Slc W A c f) : Calls Tryz.prog 14 #[.slice A f.len c] W fun e w' => e = .returned (.int .i64 (dpF f : Int)) ∧ Below W.heap.size W w' := (deepOk (wt f + 1)).1 f (Nat.lt_succ_self _) ht hK W A c h
end Go.Proofs.YtmchfoedjajbdaaGreat
