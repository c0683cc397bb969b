/-
  Mark: where there is no log, where no mark more may be, and else. Conditions: none.
-/
import Derived.Test.YtigmdfdcflkggaaGreatUdNote
import Derived.Test.YtigmdfdcflkggaaGreatMkLast2
namespace Go.Proofs.YtigmdfdcflkggaaGreat
open Go Go.RowKit Go.ChangeMaps

section
variable {w w' : World} {B lb most nest c : Nat} {mv nv : Value} {ms : List Mk} {fs : List Value}
set_option maxRecDepth 100000 in
theorem Mark_nil (w : World) :
    Calls Tryz.prog 19 #[.pointer none] w fun e w' => e = .returned (.tuple #[.int .i64 0, .int .i64 2]) ∧ w' = w := by
  go_enter Tryz.func19, Tryz.ntmps19
  go_wp2_with fail
  refine (isNil_yes _).mono ?_
  rintro e w' ⟨rfl, rfl⟩
  go_wp2
  go_ret2
  exact ⟨rfl, rfl⟩
set_option maxRecDepth 100000 in
theorem Mark_full (h : LogAt w B lb most nest ms fs c) (hn : ms.length = nest) :
    Calls Tryz.prog 19 #[ptrV lb] w fun e w' => e = .returned (.tuple #[.int .i64 0, .int .i64 42]) ∧ ∃ n, w' = w.drewN n := by
  obtain ⟨mv, nv, h⟩ := h
  have hi := isNil_no h
  obtain ⟨A, cc, rfl, hc, hcm⟩ := h.mrow.form
  have c2 := h.blk.cell (i := 2) rfl
  have c1 := h.blk.cell (i := 1) rfl
  have hlt := h.blk.lt
  rw [hn] at c2
  unfold ptrV at hi ⊢
  clear h hn hc
  go_enter Tryz.func19, Tryz.ntmps19
  go_wp2_with fail
  refine hi.mono ?_
  rintro e w' ⟨rfl, hw⟩
  obtain rfl := hw.symm
  go_wp2_with fail
  go_quiet (fail)
  go_wp2
  go_ret2
  exact ⟨rfl, _, rfl⟩
set_option maxRecDepth 100000 in
set_option maxHeartbeats 2000000 in
theorem Mark_add (h : LogAt w B lb most nest ms fs c) (hn : ms.length < nest) (hBw : B ≤ w.heap.size) :
    Calls Tryz.prog 19 #[ptrV lb] w fun e w' => e = .returned (.tuple #[.int .i64 ((ms.length + 1 : Nat) : Int), .int .i64 0]) ∧
      (∃ b, LogAt w' B lb most nest (ms ++ [⟨b, fs.length, c⟩]) fs c) ∧ Fr B LogT (fun _ => False) w w' := by
  replace h : ∀ n, LogAt (w.drewN n) B lb most nest ms fs c := fun n => h.keep (KeepL.drewN w n)
  obtain ⟨i0, hi0, hz0, hz1, hz2⟩ := info_parts infoMk
  obtain ⟨mv0, nv0, h0⟩ := h 0
  have hi : Calls Tryz.prog 77 #[ptrV lb] w fun e w' => e = .returned (.bool false) ∧ w' = w := isNil_no h0
  obtain ⟨A0, cc0, rfl, hc0, _⟩ := h0.mrow.form
  have c2 : w.cell? ⟨lb, 2, none⟩ = some _ := h0.blk.cell (i := 2) rfl
  have c1 : w.cell? ⟨lb, 1, none⟩ = some _ := h0.blk.cell (i := 1) rfl
  have hlt : lb < w.heap.size := h0.blk.lt
  unfold ptrV at hi ⊢
  obtain ⟨KM, hKM⟩ : ∃ K, ms.length = K := ⟨_, rfl⟩
  obtain ⟨KF, hKF⟩ : ∃ K, fs.length = K := ⟨_, rfl⟩
  rw [hKM] at c2 hn ⊢
  rw [hKF]
  have hne : ((KM : Int) == (nest : Int)) = false := by rw [beq_eq_false_iff_ne]; omega
  have hne2 : (KM == nest) = false := by rw [beq_eq_false_iff_ne]; omega
  replace h := Lib.hid h
  replace hKM := Lib.hid hKM
  replace hKF := Lib.hid hKF
  clear h0 hc0
  go_enter Tryz.func19, Tryz.ntmps19
  go_wp2_with fail
  refine hi.mono ?_
  rintro e w' ⟨rfl, hw⟩
  obtain rfl := hw.symm
  go_wp2_with fail
  go_quiet (fail)
  go_wp2_with fail
  replace hKM := hKM.out
  replace hKF := hKF.out
  obtain ⟨w0, hw0⟩ : ∃ w1, w.drewN nq = w1 := ⟨_, rfl⟩
  obtain ⟨mv, nv, h1⟩ := h.out (nq + 1)
  have hf1 : Fr B LogT (fun _ => False) w (w.drewN (nq + 1)) := Fr.drewN _ _ _ _ _
  have hBw1 : B ≤ (w.drewN (nq + 1)).heap.size := hBw
  obtain ⟨w1, hw1⟩ : ∃ w1, w0.drew = w1 := ⟨_, rfl⟩
  have hw2 : w.drewN (nq + 1) = w1 := by rw [← hw1, ← hw0]; rfl
  rw [hw0]
  rw [hw2] at h1 hf1 hBw1
  replace hw1 := Lib.hid hw1
  clear hw0 hw2
  clear hi h hBw c1 c2 hlt hne hne2
  obtain ⟨A, cc, rfl, hc, hcm1⟩ := h1.mrow.form
  obtain ⟨A2, cc2, rfl, hc2, hcm2⟩ := h1.nrow.form
  have c2 := h1.blk.cell (i := 2) rfl
  have c3 := h1.blk.cell (i := 3) rfl
  have c4 := h1.blk.cell (i := 4) rfl
  have hlt := h1.blk.lt
  have hL1 := h1
  have hn2 := h1.nest2
  rw [hKM] at c2 hc
  rw [hKF] at c3 hc2
  obtain ⟨z, hz⟩ : ∃ z, w1.heap.size = z := ⟨_, rfl⟩
  -- the mark's block
  have hb2 : Blk (w1.alloc (.cells #[.int .i64 (KF : Int), .int .i64 (c : Int), .bool false] 114)) z (mkC ⟨z, KF, c⟩ false) 114 := by rw [← hz]; exact Blk.new w1 _ _
  have hL2 := hL1.keep (KeepL.alloc w1 (.cells #[.int .i64 (KF : Int), .int .i64 (c : Int), .bool false] 114))
  have hs2 : (w1.alloc (.cells #[.int .i64 (KF : Int), .int .i64 (c : Int), .bool false] 114)).heap.size = z + 1 := by simp [hz]
  have hst2 := Stp.alloc (fun _ => False) w1 (.cells #[.int .i64 (KF : Int), .int .i64 (c : Int), .bool false] 114)
  obtain ⟨w2, hw2⟩ : ∃ w2, w1.alloc (.cells #[.int .i64 (KF : Int), .int .i64 (c : Int), .bool false] 114) = w2 := ⟨_, rfl⟩
  rw [hw2] at hb2 hL2 hs2 hst2
  have hb3 : Blk (w2.alloc (.cells #[.pointer (some ⟨z, 0, none⟩)] 112)) (z + 1) [ptrV z] 112 := by rw [← hs2]; exact Blk.new w2 _ _
  have hL3 := hL2.keep (KeepL.alloc w2 (.cells #[.pointer (some ⟨z, 0, none⟩)] 112))
  have hb23 := hb2.alloc (.cells #[.pointer (some ⟨z, 0, none⟩)] 112)
  have hst3 := hst2.trans (Stp.alloc (fun _ => False) w2 (.cells #[.pointer (some ⟨z, 0, none⟩)] 112)) (fun _ _ h => h)
  have hs3 : (w2.alloc (.cells #[.pointer (some ⟨z, 0, none⟩)] 112)).heap.size = z + 2 := by simp [hs2]
  obtain ⟨w3, hw3⟩ : ∃ w3, w2.alloc (.cells #[.pointer (some ⟨z, 0, none⟩)] 112) = w3 := ⟨_, rfl⟩
  rw [hw3] at hb3 hL3 hb23 hst3 hs3
  obtain ⟨mv', w4, hrun, hrow, hst, how⟩ := run_append_row (P := Tryz.prog) w3 B 98 98 98 112 i0 _ Tryz.underlying98 hi0 hz0 hz1 rfl (.slice A ms.length cc) ms.length (ms.map fun m => ptrV m.blk) hL3.mrow (.slice (some ⟨z + 1, 0, none⟩) 1 1) 1 [ptrV z]
    (Src.ofSlice _ Tryz.underlying98 _ 1 1 _ rfl (fun j u hu => by rw [add_plain0, Nat.zero_add]; exact hb3.cell hu) (by simp [Value.oneCell', ptrV])) (by rw [hz2, hKM]; omega) (by rw [hKM]; omega) (by omega)
  rw [hKM] at hrun hrow hst how
  obtain ⟨A3, cc3, rfl, hc3, hcm3⟩ := hrow.form
  have hne : ∀ g, (Value.slice A KM cc).ownBlock = some g → g ≠ lb := fun g hg => Row.ne hL3.mrow hL3.blk (by decide) (by rw [hKM]; exact hg)
  have hb4 : Blk w4 lb _ _ := hL3.blk.stp hst fun e => hne lb e rfl
  have hne3 : ∀ g, (Value.slice A3 (KM + 1) cc3).ownBlock = some g → g ≠ lb := fun g hg => Row.ne hrow hb4 (by decide) hg
  have hb5 := hb4.set 2 (.slice A3 (KM + 1) cc3)
  rw [set2L] at hb5
  have hS : Stp (fun b => b = lb ∨ (Value.slice A KM cc).ownBlock = some b) w1 (w4.setCell ⟨lb, 2, none⟩ (.slice A3 (KM + 1) cc3)) :=
    (((hst3.mono (S' := fun b => b = lb ∨ (Value.slice A KM cc).ownBlock = some b) (fun _ _ h => h.elim)).trans hst (fun _ _ h => .inr h))).trans (Stp.set (S := fun b => b = lb) rfl 2 _) (fun _ _ h => .inl h)
  have hfr := hf1.trans (Fr.of_stp (B := B) (T := LogT) (M := fun _ => False) hS (by
    intro b _ hb
    rcases hb with rfl | hb
    · exact ⟨hL1.hB, .inr ⟨_, _, _, hL1.blk, .inl rfl⟩⟩
    · obtain ⟨h1, _, cur, h2⟩ := hL1.mrow.lt (by rw [hKM]; exact hb)
      exact ⟨h1, .inr ⟨_, _, _, h2, .inr (.inl rfl)⟩⟩))
  have hrow5 := hrow.keep (w' := w4.setCell ⟨lb, 2, none⟩ (.slice A3 (KM + 1) cc3)) fun g hg => heap_setCell_other w4 _ g _ (hne3 g hg)
  have hnr5 : Row _ B 1 _ _ _ := hL1.nrow.stp hS (fun g hg hb => by
    rcases hb with hb | hb
    · exact Row.ne hL1.nrow hL1.blk (by decide) hg hb
    · exact Row.ne2 hL1.nrow hL1.mrow (by decide) hg (by rw [hKM]; exact hb) rfl)
  have hmk5 : ∀ m ∈ ms, B ≤ m.blk ∧ Blk (w4.setCell ⟨lb, 2, none⟩ (.slice A3 (KM + 1) cc3)) m.blk (mkC m false) 114 := fun m hm => ⟨(hL1.mks m hm).1, (hL1.mks m hm).2.stp hS (fun hb => by
    rcases hb with hb | hb
    · exact (hL1.mks m hm).2.ne hL1.blk (by decide) hb
    · exact Row.ne hL1.mrow (hL1.mks m hm).2 (by decide) (by rw [hKM]; exact hb) rfl)⟩
  have hzm : Blk (w4.setCell ⟨lb, 2, none⟩ (.slice A3 (KM + 1) cc3)) z (mkC ⟨z, KF, c⟩ false) 114 := by
    have h1 : Blk w4 z _ _ := hb23.stp hst (fun hb => Row.ne hL3.mrow hb23 (by decide) (by rw [hKM]; exact hb) rfl)
    exact h1.other (a := ⟨lb, 2, none⟩) (fun e => by simp at e; omega) _
  have hlog : ∃ b, LogAt (w4.setCell ⟨lb, 2, none⟩ (.slice A3 (KM + 1) cc3)) B lb most nest (ms ++ [⟨b, KF, c⟩]) fs c :=
    ⟨z, _, _, hL1.hB, hb5, (by rw [List.length_append, hKM, List.map_append]; exact hrow5), hnr5, fun m hm => by
      rcases List.mem_append.1 hm with hm | hm
      · exact hmk5 m hm
      · rw [List.mem_singleton.1 hm]; exact ⟨by show B ≤ z; omega, hzm⟩, by
      rw [List.map_append]
      refine List.nodup_append.2 ⟨hL1.ap, by simp, fun a ha b hb => ?_⟩
      obtain ⟨m, hm, rfl⟩ := List.mem_map.1 ha
      have := (hL1.mks m hm).2.lt
      rw [List.map_singleton, List.mem_singleton] at hb
      rw [hb]
      show m.blk ≠ z
      omega, hL1.nest1, hL1.nest2, hL1.most2, hL1.cp, (by rw [List.length_append, hKM]; simp; omega), hL1.fc, hL1.fn, fun m hm => by
      rcases List.mem_append.1 hm with hm | hm
      · exact hL1.mc m hm
      · rw [List.mem_singleton.1 hm]; exact ⟨by show KF ≤ c; have := hL1.fc; omega, hL1.cp⟩⟩
  have d2 : w4.cell? ⟨lb, 2, none⟩ = some _ := hb4.cell (i := 2) rfl
  have g2 := hb4.frozen 2
  have e2 : w2.cell? ⟨lb, 2, none⟩ = some (.slice A KM cc) := by rw [← hKM]; exact hL2.blk.cell (i := 2) rfl
  have e3 : w2.cell? ⟨lb, 3, none⟩ = some (.slice A2 KF cc2) := by rw [← hKF]; exact hL2.blk.cell (i := 3) rfl
  have e4 : w2.cell? ⟨lb, 4, none⟩ = some (.int .i64 (c : Int)) := hL2.blk.cell (i := 4) rfl
  have u2 : w3.cell? ⟨lb, 2, none⟩ = some (.slice A KM cc) := by rw [← hKM]; exact hL3.blk.cell (i := 2) rfl
  have u3 : w3.cell? ⟨lb, 3, none⟩ = some (.slice A2 KF cc2) := by rw [← hKF]; exact hL3.blk.cell (i := 3) rfl
  have u4 : w3.cell? ⟨lb, 4, none⟩ = some (.int .i64 (c : Int)) := hL3.blk.cell (i := 4) rfl
  have v3 : w4.cell? ⟨lb, 3, none⟩ = some (.slice A2 KF cc2) := by rw [← hKF]; exact hb4.cell (i := 3) rfl
  have v4 : w4.cell? ⟨lb, 4, none⟩ = some (.int .i64 (c : Int)) := hb4.cell (i := 4) rfl
  have hl4 := hb4.lt
  rw [hKM] at d2
  obtain ⟨W5, hW5⟩ : ∃ W5, w4.setCell ⟨lb, 2, none⟩ (.slice A3 (KM + 1) cc3) = W5 := ⟨_, rfl⟩
  rw [hW5] at hlog hfr hb5
  have x2 := hb5.cell (i := 2) rfl
  have hl5 := hb5.lt
  replace hlog := Lib.hid hlog
  replace hfr := Lib.hid hfr
  replace hrun := Lib.hid hrun
  replace hW5 := Lib.hid hW5
  replace hw2 := Lib.hid hw2
  replace hw3 := Lib.hid hw3
  replace hs2 := Lib.hid hs2
  replace hz := Lib.hid hz
  clear hzm hmk5 hnr5 hrow5 hS hb5 hne3 hb4 hne hst hrow hst3 hb23 hL3 hb3 hst2 hL2 hb2 hL1 h1 hf1 hi0 hz0 hz1 hz2 hKF how hs3 hKM
  refine wp_region_last (L := 20) (S := (fun w' : World => w'.cell? ⟨lb, 2, none⟩ = some (.slice A KM cc) ∧ w'.cell? ⟨lb, 3, none⟩ = some (.slice A2 KF cc2) ∧ w'.cell? ⟨lb, 4, none⟩ = some (.int .i64 (c : Int)))) (by kernel_rfl) ?_
  rw [hw1.out]
  have hS0 : (fun w' : World => w'.cell? ⟨lb, 2, none⟩ = some (.slice A KM cc) ∧ w'.cell? ⟨lb, 3, none⟩ = some (.slice A2 KF cc2) ∧ w'.cell? ⟨lb, 4, none⟩ = some (.int .i64 (c : Int))) w1 := ⟨c2, c3, c4⟩
  refine wpAnyT_takeT (n := 40) (i := 0) (v := .pointer (some ⟨lb, 0, none⟩)) rfl (by kernel_rfl) (by kernel_rfl) (by kernel_rfl) (by kernel_rfl) (by kernel_rfl) (fun _ _ _ h => h) (Or.inl ⟨by rfl, ?_⟩) hS0 ?_
  · intro W hW
    obtain ⟨k0, k1, k2⟩ := hW
    clear hS0 c2 c3 c4 d2 g2 e2 e3 e4 u2 u3 u4 v3 v4 x2
    go_simp
    try (intro hx; exfalso; omega)
  try simp only [Act.put, List.setIfInBounds_toArray]
  refine wpAnyT_takeT (n := 40) (i := 1) (v := .pointer (some ⟨lb, 0, none⟩)) rfl (by kernel_rfl) (by kernel_rfl) (by kernel_rfl) (by kernel_rfl) (by kernel_rfl) (fun _ _ _ h => h) (Or.inl ⟨by rfl, ?_⟩) hS0 ?_
  · intro W hW
    obtain ⟨k0, k1, k2⟩ := hW
    clear hS0 c2 c3 c4 d2 g2 e2 e3 e4 u2 u3 u4 v3 v4 x2
    go_simp
    try (intro hx; exfalso; omega)
  try simp only [Act.put]
  refine wpAnyT_takeT (n := 40) (i := 2) (v := .pointer (some ⟨lb, 0, none⟩)) rfl (by kernel_rfl) (by kernel_rfl) (by kernel_rfl) (by kernel_rfl) (by kernel_rfl) (fun _ _ _ h => h) (Or.inl ⟨by rfl, ?_⟩) hS0 ?_
  · intro W hW
    obtain ⟨k0, k1, k2⟩ := hW
    clear hS0 c2 c3 c4 d2 g2 e2 e3 e4 u2 u3 u4 v3 v4 x2
    go_simp
    try (intro hx; exfalso; omega)
  try simp only [Act.put]
  refine wpAnyT_takeT (n := 40) (i := 3) (v := .pointer (some ⟨lb, 2, none⟩)) rfl (by kernel_rfl) (by kernel_rfl) (by kernel_rfl) (by kernel_rfl) (by kernel_rfl) (fun _ _ _ h => h) (Or.inl ⟨by rfl, ?_⟩) hS0 ?_
  · intro W hW
    obtain ⟨k0, k1, k2⟩ := hW
    clear hS0 c2 c3 c4 d2 g2 e2 e3 e4 u2 u3 u4 v3 v4 x2
    go_simp
    try (intro hx; exfalso; omega)
  try simp only [Act.put]
  refine wpAnyT_takeT (n := 40) (i := 4) (v := .slice A KM cc) rfl (by kernel_rfl) (by kernel_rfl) (by kernel_rfl) (by kernel_rfl) (by kernel_rfl) (fun _ _ _ h => h) (Or.inl ⟨by rfl, ?_⟩) hS0 ?_
  · intro W hW
    obtain ⟨k0, k1, k2⟩ := hW
    clear hS0 c2 c3 c4 d2 g2 e2 e3 e4 u2 u3 u4 v3 v4 x2
    go_simp
    try (intro hx; exfalso; omega)
  try simp only [Act.put]
  refine wpAnyT_takeT (n := 40) (i := 5) (v := .pointer (some ⟨lb, 0, none⟩)) rfl (by kernel_rfl) (by kernel_rfl) (by kernel_rfl) (by kernel_rfl) (by kernel_rfl) (fun _ _ _ h => h) (Or.inl ⟨by rfl, ?_⟩) hS0 ?_
  · intro W hW
    obtain ⟨k0, k1, k2⟩ := hW
    clear hS0 c2 c3 c4 d2 g2 e2 e3 e4 u2 u3 u4 v3 v4 x2
    go_simp
    try (intro hx; exfalso; omega)
  try simp only [Act.put]
  refine wpAnyT_takeT (n := 40) (i := 6) (v := .pointer (some ⟨lb, 0, none⟩)) rfl (by kernel_rfl) (by kernel_rfl) (by kernel_rfl) (by kernel_rfl) (by kernel_rfl) (fun _ _ _ h => h) (Or.inl ⟨by rfl, ?_⟩) hS0 ?_
  · intro W hW
    obtain ⟨k0, k1, k2⟩ := hW
    clear hS0 c2 c3 c4 d2 g2 e2 e3 e4 u2 u3 u4 v3 v4 x2
    go_simp
    try (intro hx; exfalso; omega)
  try simp only [Act.put]
  refine wpAnyT_takeT (n := 40) (i := 7) (v := .pointer (some ⟨lb, 3, none⟩)) rfl (by kernel_rfl) (by kernel_rfl) (by kernel_rfl) (by kernel_rfl) (by kernel_rfl) (fun _ _ _ h => h) (Or.inl ⟨by rfl, ?_⟩) hS0 ?_
  · intro W hW
    obtain ⟨k0, k1, k2⟩ := hW
    clear hS0 c2 c3 c4 d2 g2 e2 e3 e4 u2 u3 u4 v3 v4 x2
    go_simp
    try (intro hx; exfalso; omega)
  try simp only [Act.put]
  refine wpAnyT_takeT (n := 40) (i := 8) (v := .slice A2 KF cc2) rfl (by kernel_rfl) (by kernel_rfl) (by kernel_rfl) (by kernel_rfl) (by kernel_rfl) (fun _ _ _ h => h) (Or.inl ⟨by rfl, ?_⟩) hS0 ?_
  · intro W hW
    obtain ⟨k0, k1, k2⟩ := hW
    clear hS0 c2 c3 c4 d2 g2 e2 e3 e4 u2 u3 u4 v3 v4 x2
    go_simp
    try (intro hx; exfalso; omega)
  try simp only [Act.put]
  refine wpAnyT_takeT (n := 40) (i := 9) (v := .int .i64 (KF : Int)) rfl (by kernel_rfl) (by kernel_rfl) (by kernel_rfl) (by kernel_rfl) (by kernel_rfl) (fun _ _ _ h => h) (Or.inl ⟨by rfl, ?_⟩) hS0 ?_
  · intro W hW
    obtain ⟨k0, k1, k2⟩ := hW
    clear hS0 c2 c3 c4 d2 g2 e2 e3 e4 u2 u3 u4 v3 v4 x2
    go_simp
    try (intro hx; exfalso; omega)
  try simp only [Act.put]
  refine wpAnyT_takeT (n := 40) (i := 10) (v := .pointer (some ⟨lb, 0, none⟩)) rfl (by kernel_rfl) (by kernel_rfl) (by kernel_rfl) (by kernel_rfl) (by kernel_rfl) (fun _ _ _ h => h) (Or.inl ⟨by rfl, ?_⟩) hS0 ?_
  · intro W hW
    obtain ⟨k0, k1, k2⟩ := hW
    clear hS0 c2 c3 c4 d2 g2 e2 e3 e4 u2 u3 u4 v3 v4 x2
    go_simp
    try (intro hx; exfalso; omega)
  try simp only [Act.put]
  refine wpAnyT_takeT (n := 40) (i := 11) (v := .pointer (some ⟨lb, 0, none⟩)) rfl (by kernel_rfl) (by kernel_rfl) (by kernel_rfl) (by kernel_rfl) (by kernel_rfl) (fun _ _ _ h => h) (Or.inl ⟨by rfl, ?_⟩) hS0 ?_
  · intro W hW
    obtain ⟨k0, k1, k2⟩ := hW
    clear hS0 c2 c3 c4 d2 g2 e2 e3 e4 u2 u3 u4 v3 v4 x2
    go_simp
    try (intro hx; exfalso; omega)
  try simp only [Act.put]
  refine wpAnyT_takeT (n := 40) (i := 12) (v := .pointer (some ⟨lb, 4, none⟩)) rfl (by kernel_rfl) (by kernel_rfl) (by kernel_rfl) (by kernel_rfl) (by kernel_rfl) (fun _ _ _ h => h) (Or.inl ⟨by rfl, ?_⟩) hS0 ?_
  · intro W hW
    obtain ⟨k0, k1, k2⟩ := hW
    clear hS0 c2 c3 c4 d2 g2 e2 e3 e4 u2 u3 u4 v3 v4 x2
    go_simp
    try (intro hx; exfalso; omega)
  try simp only [Act.put]
  refine wpAnyT_takeT (n := 40) (i := 13) (v := .int .i64 (c : Int)) rfl (by kernel_rfl) (by kernel_rfl) (by kernel_rfl) (by kernel_rfl) (by kernel_rfl) (fun _ _ _ h => h) (Or.inl ⟨by rfl, ?_⟩) hS0 ?_
  · intro W hW
    obtain ⟨k0, k1, k2⟩ := hW
    clear hS0 c2 c3 c4 d2 g2 e2 e3 e4 u2 u3 u4 v3 v4 x2
    go_simp
    try (intro hx; exfalso; omega)
  try simp only [Act.put]
  refine wpAnyT_takeT (n := 40) (i := 14) (v := .agg #[.int .i64 (KF : Int), .int .i64 (c : Int), .bool false]) rfl (by kernel_rfl) (by kernel_rfl) (by kernel_rfl) (by kernel_rfl) (by kernel_rfl) (fun _ _ _ h => h) (Or.inl ⟨by rfl, ?_⟩) hS0 ?_
  · intro W hW
    obtain ⟨k0, k1, k2⟩ := hW
    clear hS0 c2 c3 c4 d2 g2 e2 e3 e4 u2 u3 u4 v3 v4 x2
    go_simp
    try (intro hx; exfalso; omega)
  try simp only [Act.put]
  clear hS0
  refine wpAnyT_one (i := 15) rfl (by kernel_rfl) rfl ?_
  go_simp
  rw [hz.out, hw2.out]
  refine wpAnyT_one (i := 16) rfl (by kernel_rfl) rfl ?_
  go_simp
  rw [hs2.out, hw3.out]
  refine ⟨⟨u2, u3, u4⟩, ?_⟩
  refine wpAnyT_one (i := 17) rfl (by kernel_rfl) rfl ?_
  refine wp_append_of (.tmp 22) (.tmp 34) 98 98 rfl _ _ _ w4 rfl rfl hrun.out ?_
  refine ⟨fun _ => ⟨d2, v3, v4⟩, ?_⟩
  clear c2 c3 c4 e2 e3 e4 u2 u3 u4
  try simp only [Act.put, List.setIfInBounds_toArray]
  refine wpAnyT_one (i := 18) rfl (by kernel_rfl) rfl ?_
  go_simp
  refine wpAnyT_one (i := 19) rfl (by kernel_rfl) rfl ?_
  go_simp
  refine wpAnyT_one (i := 20) rfl (by kernel_rfl) rfl ?_
  go_simp
  rw [hW5.out]
  refine wpAnyT_done (by kernel_rfl) ?_ _
  clear d2 g2 v3 v4
  go_wp2
  go_ret2
  exact ⟨rfl, hlog.out, hfr.out⟩
end
end Go.Proofs.YtigmdfdcflkggaaGreat
