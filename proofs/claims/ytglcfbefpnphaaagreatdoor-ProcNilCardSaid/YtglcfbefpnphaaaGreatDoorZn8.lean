/-
  Mark: where there is no log, where no mark more may be, and else. Conditions: none.
-/
import Derived.Lib.SliceRun
import Derived.Defers
import Derived.Recover
import Derived.Laws.EntriesVeiled
import Derived.BigFrame
import Derived.Deep.Cut
import Derived.Deep.DeepCutAuto
import Derived.Shelf.Abstract
import Derived.Test.YtglcfbefpnphaaaGreatDoorZn1
import Derived.Test.YtglcfbefpnphaaaGreatDoorZn7
namespace Go.Proofs.YtglcfbefpnphaaaGreatDoor
open Go Go.RowKit Go.ChangeMaps

section
variable {w w' : World} {B lb most nest c : Nat} {mv nv : Value} {ms : List Mk} {fs : List Value}
set_option maxRecDepth 100000 in
set_option maxHeartbeats 2000000 in
theorem LogMark_add (h : LogAt w B lb most nest ms fs c) (hn : ms.length < nest) (hBw : B ≤ w.heap.size) :
    Calls Tryz.prog 80 #[ptrV lb] w fun e w' => e = .returned (.tuple #[.int .i64 ((ms.length + 1 : Nat) : Int), .int .i64 0]) ∧
      (∃ b, LogAt w' B lb most nest (ms ++ [⟨b, fs.length, c⟩]) fs c) ∧ Fr B LogT (fun _ => False) w w' := by
  replace h : ∀ n, LogAt (w.drewN n) B lb most nest ms fs c := fun n => h.keep (KeepL.drewN w n)
  obtain ⟨i0, hi0, hz0, hz1, hz2⟩ := info_parts infoMk
  obtain ⟨mv0, nv0, h0⟩ := h 0
  have hi : Calls Tryz.prog 78 #[ptrV lb] w fun e w' => e = .returned (.bool false) ∧ w' = w := lisNil_no h0
  obtain ⟨A0, cc0, rfl, hc0, _⟩ := h0.mrow.form
  have c2 : w.cell? ⟨lb, 2, none⟩ = some _ := h0.blk.cell (i := 2) rfl
  have c1 : w.cell? ⟨lb, 1, none⟩ = some _ := h0.blk.cell (i := 1) rfl
  have hlt : lb < w.heap.size := h0.blk.lt
  unfold ptrV at hi ⊢
  obtain ⟨KM, hKM⟩ : ∃ K, ms.length = K := ⟨_, rfl⟩
  obtain ⟨KF, hKF⟩ : ∃ K, fs.length = K := ⟨_, rfl⟩
  rw [hKM] at c2 hn ⊢
  rw [hKF]
  have hne : ((KM : Int) == (nest : Int)) = false := by rw [beq_eq_false_iff_ne]; omega
  have hne2 : (KM == nest) = false := by rw [beq_eq_false_iff_ne]; omega
  replace h := Lib.hid h
  replace hKM := Lib.hid hKM
  replace hKF := Lib.hid hKF
  clear h0 hc0
  go_enter Tryz.func80, Tryz.ntmps80
  go_wp2_with fail
  refine hi.mono ?_
  rintro e w' ⟨rfl, hw⟩
  obtain rfl := hw.symm
  go_wp2_with fail
  go_quiet (fail)
  go_wp2_with fail
  replace hKM := hKM.out
  replace hKF := hKF.out
  obtain ⟨w0, hw0⟩ : ∃ w1, w.drewN nq = w1 := ⟨_, rfl⟩
  obtain ⟨mv, nv, h1⟩ := h.out (nq + 1)
  have hf1 : Fr B LogT (fun _ => False) w (w.drewN (nq + 1)) := Fr.drewN _ _ _ _ _
  have hBw1 : B ≤ (w.drewN (nq + 1)).heap.size := hBw
  obtain ⟨w1, hw1⟩ : ∃ w1, w0.drew = w1 := ⟨_, rfl⟩
  have hw2 : w.drewN (nq + 1) = w1 := by rw [← hw1, ← hw0]; rfl
  rw [hw0]
  rw [hw2] at h1 hf1 hBw1
  replace hw1 := Lib.hid hw1
  clear hw0 hw2
  clear hi h hBw c1 c2 hlt hne hne2
  obtain ⟨A, cc, rfl, hc, hcm1⟩ := h1.mrow.form
  obtain ⟨A2, cc2, rfl, hc2, hcm2⟩ := h1.nrow.form
  have c2 := h1.blk.cell (i := 2) rfl
  have c3 := h1.blk.cell (i := 3) rfl
  have c4 := h1.blk.cell (i := 4) rfl
  have hlt := h1.blk.lt
  have hL1 := h1
  have hn2 := h1.nest2
  rw [hKM] at c2 hc
  rw [hKF] at c3 hc2
  obtain ⟨z, hz⟩ : ∃ z, w1.heap.size = z := ⟨_, rfl⟩
  -- the mark's block
  have hb2 : Blk (w1.alloc (.cells #[.int .i64 (KF : Int), .int .i64 (c : Int), .bool false] 222)) z (mkC ⟨z, KF, c⟩ false) 222 := by rw [← hz]; exact Blk.new w1 _ _
  have hL2 := hL1.keep (KeepL.alloc w1 (.cells #[.int .i64 (KF : Int), .int .i64 (c : Int), .bool false] 222))
  have hs2 : (w1.alloc (.cells #[.int .i64 (KF : Int), .int .i64 (c : Int), .bool false] 222)).heap.size = z + 1 := by simp [hz]
  have hst2 := Stp.alloc (fun _ => False) w1 (.cells #[.int .i64 (KF : Int), .int .i64 (c : Int), .bool false] 222)
  obtain ⟨w2, hw2⟩ : ∃ w2, w1.alloc (.cells #[.int .i64 (KF : Int), .int .i64 (c : Int), .bool false] 222) = w2 := ⟨_, rfl⟩
  rw [hw2] at hb2 hL2 hs2 hst2
  have hb3 : Blk (w2.alloc (.cells #[.pointer (some ⟨z, 0, none⟩)] 220)) (z + 1) [ptrV z] 220 := by rw [← hs2]; exact Blk.new w2 _ _
  have hL3 := hL2.keep (KeepL.alloc w2 (.cells #[.pointer (some ⟨z, 0, none⟩)] 220))
  have hb23 := hb2.alloc (.cells #[.pointer (some ⟨z, 0, none⟩)] 220)
  have hst3 := hst2.trans (Stp.alloc (fun _ => False) w2 (.cells #[.pointer (some ⟨z, 0, none⟩)] 220)) (fun _ _ h => h)
  have hs3 : (w2.alloc (.cells #[.pointer (some ⟨z, 0, none⟩)] 220)).heap.size = z + 2 := by simp [hs2]
  obtain ⟨w3, hw3⟩ : ∃ w3, w2.alloc (.cells #[.pointer (some ⟨z, 0, none⟩)] 220) = w3 := ⟨_, rfl⟩
  rw [hw3] at hb3 hL3 hb23 hst3 hs3
  obtain ⟨mv', w4, hrun, hrow, hst, how⟩ := run_append_rowS (P := Tryz.prog) w3 B 118 118 118 220 i0 _ Tryz.underlying118 hi0 hz0 hz1 rfl (.slice A ms.length cc) ms.length (ms.map fun m => ptrV m.blk) hL3.mrow (.slice (some ⟨z + 1, 0, none⟩) 1 1) 1 [ptrV z]
    (Src.ofSlice _ Tryz.underlying118 _ 1 1 _ rfl (fun j u hu => by rw [add_plain0, Nat.zero_add]; exact hb3.cell hu) (by simp [Value.oneCell', ptrV])) (by rw [hz2, hKM]; omega) (by rw [hKM]; omega) (by omega)
  rw [hKM] at hrun hrow hst how
  obtain ⟨A3, cc3, rfl, hc3, hcm3⟩ := hrow.form
  have hne : ∀ g, (Value.slice A KM cc).ownBlock = some g → g ≠ lb := fun g hg => Row.ne hL3.mrow hL3.blk (by decide) (by rw [hKM]; exact hg)
  have hb4 : Blk w4 lb _ _ := hL3.blk.stp hst fun e => hne lb e rfl
  have hne3 : ∀ g, (Value.slice A3 (KM + 1) cc3).ownBlock = some g → g ≠ lb := fun g hg => Row.ne hrow hb4 (by decide) hg
  have hb5 := hb4.set 2 (.slice A3 (KM + 1) cc3)
  rw [set2L] at hb5
  have hS : Stp (fun b => b = lb ∨ (Value.slice A KM cc).ownBlock = some b) w1 (w4.setCell ⟨lb, 2, none⟩ (.slice A3 (KM + 1) cc3)) :=
    (((hst3.mono (S' := fun b => b = lb ∨ (Value.slice A KM cc).ownBlock = some b) (fun _ _ h => h.elim)).trans hst (fun _ _ h => .inr h))).trans (Stp.set (S := fun b => b = lb) rfl 2 _) (fun _ _ h => .inl h)
  have hfr := hf1.trans (Fr.of_stp (B := B) (T := LogT) (M := fun _ => False) hS (by
    intro b _ hb
    rcases hb with rfl | hb
    · exact ⟨hL1.hB, .inr ⟨_, _, _, hL1.blk, .inl rfl⟩⟩
    · obtain ⟨h1, _, cur, h2⟩ := hL1.mrow.lt (by rw [hKM]; exact hb)
      exact ⟨h1, .inr ⟨_, _, _, h2, .inr (.inl rfl)⟩⟩))
  have hrow5 := hrow.keep (w' := w4.setCell ⟨lb, 2, none⟩ (.slice A3 (KM + 1) cc3)) fun g hg => heap_setCell_other w4 _ g _ (hne3 g hg)
  have hnr5 : Row _ B 1 _ _ _ := hL1.nrow.stp hS (fun g hg hb => by
    rcases hb with hb | hb
    · exact Row.ne hL1.nrow hL1.blk (by decide) hg hb
    · exact Row.ne2 hL1.nrow hL1.mrow (by decide) hg (by rw [hKM]; exact hb) rfl)
  have hmk5 : ∀ m ∈ ms, B ≤ m.blk ∧ Blk (w4.setCell ⟨lb, 2, none⟩ (.slice A3 (KM + 1) cc3)) m.blk (mkC m false) 222 := fun m hm => ⟨(hL1.mks m hm).1, (hL1.mks m hm).2.stp hS (fun hb => by
    rcases hb with hb | hb
    · exact (hL1.mks m hm).2.ne hL1.blk (by decide) hb
    · exact Row.ne hL1.mrow (hL1.mks m hm).2 (by decide) (by rw [hKM]; exact hb) rfl)⟩
  have hzm : Blk (w4.setCell ⟨lb, 2, none⟩ (.slice A3 (KM + 1) cc3)) z (mkC ⟨z, KF, c⟩ false) 222 := by
    have h1 : Blk w4 z _ _ := hb23.stp hst (fun hb => Row.ne hL3.mrow hb23 (by decide) (by rw [hKM]; exact hb) rfl)
    exact h1.other (a := ⟨lb, 2, none⟩) (fun e => by simp at e; omega) _
  have hlog : ∃ b, LogAt (w4.setCell ⟨lb, 2, none⟩ (.slice A3 (KM + 1) cc3)) B lb most nest (ms ++ [⟨b, KF, c⟩]) fs c :=
    ⟨z, _, _, hL1.hB, hb5, (by rw [List.length_append, hKM, List.map_append]; exact hrow5), hnr5, fun m hm => by
      rcases List.mem_append.1 hm with hm | hm
      · exact hmk5 m hm
      · rw [List.mem_singleton.1 hm]; exact ⟨by show B ≤ z; omega, hzm⟩, by
      rw [List.map_append]
      refine List.nodup_append.2 ⟨hL1.ap, by simp, fun a ha b hb => ?_⟩
      obtain ⟨m, hm, rfl⟩ := List.mem_map.1 ha
      have := (hL1.mks m hm).2.lt
      rw [List.map_singleton, List.mem_singleton] at hb
      rw [hb]
      show m.blk ≠ z
      omega, hL1.nest1, hL1.nest2, hL1.most2, hL1.cp, (by rw [List.length_append, hKM]; simp; omega), hL1.fc, hL1.fn, fun m hm => by
      rcases List.mem_append.1 hm with hm | hm
      · exact hL1.mc m hm
      · rw [List.mem_singleton.1 hm]; exact ⟨by show KF ≤ c; have := hL1.fc; omega, hL1.cp⟩⟩
  have d2 : w4.cell? ⟨lb, 2, none⟩ = some _ := hb4.cell (i := 2) rfl
  have g2 := hb4.frozen 2
  have e2 : w2.cell? ⟨lb, 2, none⟩ = some (.slice A KM cc) := by rw [← hKM]; exact hL2.blk.cell (i := 2) rfl
  have e3 : w2.cell? ⟨lb, 3, none⟩ = some (.slice A2 KF cc2) := by rw [← hKF]; exact hL2.blk.cell (i := 3) rfl
  have e4 : w2.cell? ⟨lb, 4, none⟩ = some (.int .i64 (c : Int)) := hL2.blk.cell (i := 4) rfl
  have u2 : w3.cell? ⟨lb, 2, none⟩ = some (.slice A KM cc) := by rw [← hKM]; exact hL3.blk.cell (i := 2) rfl
  have u3 : w3.cell? ⟨lb, 3, none⟩ = some (.slice A2 KF cc2) := by rw [← hKF]; exact hL3.blk.cell (i := 3) rfl
  have u4 : w3.cell? ⟨lb, 4, none⟩ = some (.int .i64 (c : Int)) := hL3.blk.cell (i := 4) rfl
  have v3 : w4.cell? ⟨lb, 3, none⟩ = some (.slice A2 KF cc2) := by rw [← hKF]; exact hb4.cell (i := 3) rfl
  have v4 : w4.cell? ⟨lb, 4, none⟩ = some (.int .i64 (c : Int)) := hb4.cell (i := 4) rfl
  have hl4 := hb4.lt
  rw [hKM] at d2
  obtain ⟨W5, hW5⟩ : ∃ W5, w4.setCell ⟨lb, 2, none⟩ (.slice A3 (KM + 1) cc3) = W5 := ⟨_, rfl⟩
  rw [hW5] at hlog hfr hb5
  have x2 := hb5.cell (i := 2) rfl
  have hl5 := hb5.lt
  replace hlog := Lib.hid hlog
  replace hfr := Lib.hid hfr
  replace hrun := Lib.hid hrun
  replace hW5 := Lib.hid hW5
  replace hw2 := Lib.hid hw2
  replace hw3 := Lib.hid hw3
  replace hs2 := Lib.hid hs2
  replace hz := Lib.hid hz
  clear hzm hmk5 hnr5 hrow5 hS hb5 hne3 hb4 hne hst hrow hst3 hb23 hL3 hb3 hst2 hL2 hb2 hL1 h1 hf1 hi0 hz0 hz1 hz2 hKF how hs3 hKM
  refine wp_region_last (L := 20) (S := (fun w' : World => w'.cell? ⟨lb, 2, none⟩ = some (.slice A KM cc) ∧ w'.cell? ⟨lb, 3, none⟩ = some (.slice A2 KF cc2) ∧ w'.cell? ⟨lb, 4, none⟩ = some (.int .i64 (c : Int)))) (by kernel_rfl) ?_
  rw [hw1.out]
  have hS0 : (fun w' : World => w'.cell? ⟨lb, 2, none⟩ = some (.slice A KM cc) ∧ w'.cell? ⟨lb, 3, none⟩ = some (.slice A2 KF cc2) ∧ w'.cell? ⟨lb, 4, none⟩ = some (.int .i64 (c : Int))) w1 := ⟨c2, c3, c4⟩
  refine wpAnyT_takeT (n := 40) (i := 0) (v := .pointer (some ⟨lb, 0, none⟩)) rfl (by kernel_rfl) (by kernel_rfl) (by kernel_rfl) (by kernel_rfl) (by kernel_rfl) (fun _ _ _ h => h) (Or.inl ⟨by rfl, ?_⟩) hS0 ?_
  · intro W hW
    obtain ⟨k0, k1, k2⟩ := hW
    clear hS0 c2 c3 c4 d2 g2 e2 e3 e4 u2 u3 u4 v3 v4 x2
    go_simp
    try (intro hx; exfalso; omega)
  try simp only [Act.put, List.setIfInBounds_toArray]
  refine wpAnyT_takeT (n := 40) (i := 1) (v := .pointer (some ⟨lb, 0, none⟩)) rfl (by kernel_rfl) (by kernel_rfl) (by kernel_rfl) (by kernel_rfl) (by kernel_rfl) (fun _ _ _ h => h) (Or.inl ⟨by rfl, ?_⟩) hS0 ?_
  · intro W hW
    obtain ⟨k0, k1, k2⟩ := hW
    clear hS0 c2 c3 c4 d2 g2 e2 e3 e4 u2 u3 u4 v3 v4 x2
    go_simp
    try (intro hx; exfalso; omega)
  try simp only [Act.put]
  refine wpAnyT_takeT (n := 40) (i := 2) (v := .pointer (some ⟨lb, 0, none⟩)) rfl (by kernel_rfl) (by kernel_rfl) (by kernel_rfl) (by kernel_rfl) (by kernel_rfl) (fun _ _ _ h => h) (Or.inl ⟨by rfl, ?_⟩) hS0 ?_
  · intro W hW
    obtain ⟨k0, k1, k2⟩ := hW
    clear hS0 c2 c3 c4 d2 g2 e2 e3 e4 u2 u3 u4 v3 v4 x2
    go_simp
    try (intro hx; exfalso; omega)
  try simp only [Act.put]
  refine wpAnyT_takeT (n := 40) (i := 3) (v := .pointer (some ⟨lb, 2, none⟩)) rfl (by kernel_rfl) (by kernel_rfl) (by kernel_rfl) (by kernel_rfl) (by kernel_rfl) (fun _ _ _ h => h) (Or.inl ⟨by rfl, ?_⟩) hS0 ?_
  · intro W hW
    obtain ⟨k0, k1, k2⟩ := hW
    clear hS0 c2 c3 c4 d2 g2 e2 e3 e4 u2 u3 u4 v3 v4 x2
    go_simp
    try (intro hx; exfalso; omega)
  try simp only [Act.put]
  refine wpAnyT_takeT (n := 40) (i := 4) (v := .slice A KM cc) rfl (by kernel_rfl) (by kernel_rfl) (by kernel_rfl) (by kernel_rfl) (by kernel_rfl) (fun _ _ _ h => h) (Or.inl ⟨by rfl, ?_⟩) hS0 ?_
  · intro W hW
    obtain ⟨k0, k1, k2⟩ := hW
    clear hS0 c2 c3 c4 d2 g2 e2 e3 e4 u2 u3 u4 v3 v4 x2
    go_simp
    try (intro hx; exfalso; omega)
  try simp only [Act.put]
  refine wpAnyT_takeT (n := 40) (i := 5) (v := .pointer (some ⟨lb, 0, none⟩)) rfl (by kernel_rfl) (by kernel_rfl) (by kernel_rfl) (by kernel_rfl) (by kernel_rfl) (fun _ _ _ h => h) (Or.inl ⟨by rfl, ?_⟩) hS0 ?_
  · intro W hW
    obtain ⟨k0, k1, k2⟩ := hW
    clear hS0 c2 c3 c4 d2 g2 e2 e3 e4 u2 u3 u4 v3 v4 x2
    go_simp
    try (intro hx; exfalso; omega)
  try simp only [Act.put]
  refine wpAnyT_takeT (n := 40) (i := 6) (v := .pointer (some ⟨lb, 0, none⟩)) rfl (by kernel_rfl) (by kernel_rfl) (by kernel_rfl) (by kernel_rfl) (by kernel_rfl) (fun _ _ _ h => h) (Or.inl ⟨by rfl, ?_⟩) hS0 ?_
  · intro W hW
    obtain ⟨k0, k1, k2⟩ := hW
    clear hS0 c2 c3 c4 d2 g2 e2 e3 e4 u2 u3 u4 v3 v4 x2
    go_simp
    try (intro hx; exfalso; omega)
  try simp only [Act.put]
  refine wpAnyT_takeT (n := 40) (i := 7) (v := .pointer (some ⟨lb, 3, none⟩)) rfl (by kernel_rfl) (by kernel_rfl) (by kernel_rfl) (by kernel_rfl) (by kernel_rfl) (fun _ _ _ h => h) (Or.inl ⟨by rfl, ?_⟩) hS0 ?_
  · intro W hW
    obtain ⟨k0, k1, k2⟩ := hW
    clear hS0 c2 c3 c4 d2 g2 e2 e3 e4 u2 u3 u4 v3 v4 x2
    go_simp
    try (intro hx; exfalso; omega)
  try simp only [Act.put]
  refine wpAnyT_takeT (n := 40) (i := 8) (v := .slice A2 KF cc2) rfl (by kernel_rfl) (by kernel_rfl) (by kernel_rfl) (by kernel_rfl) (by kernel_rfl) (fun _ _ _ h => h) (Or.inl ⟨by rfl, ?_⟩) hS0 ?_
  · intro W hW
    obtain ⟨k0, k1, k2⟩ := hW
    clear hS0 c2 c3 c4 d2 g2 e2 e3 e4 u2 u3 u4 v3 v4 x2
    go_simp
    try (intro hx; exfalso; omega)
  try simp only [Act.put]
  refine wpAnyT_takeT (n := 40) (i := 9) (v := .int .i64 (KF : Int)) rfl (by kernel_rfl) (by kernel_rfl) (by kernel_rfl) (by kernel_rfl) (by kernel_rfl) (fun _ _ _ h => h) (Or.inl ⟨by rfl, ?_⟩) hS0 ?_
  · intro W hW
    obtain ⟨k0, k1, k2⟩ := hW
    clear hS0 c2 c3 c4 d2 g2 e2 e3 e4 u2 u3 u4 v3 v4 x2
    go_simp
    try (intro hx; exfalso; omega)
  try simp only [Act.put]
  refine wpAnyT_takeT (n := 40) (i := 10) (v := .pointer (some ⟨lb, 0, none⟩)) rfl (by kernel_rfl) (by kernel_rfl) (by kernel_rfl) (by kernel_rfl) (by kernel_rfl) (fun _ _ _ h => h) (Or.inl ⟨by rfl, ?_⟩) hS0 ?_
  · intro W hW
    obtain ⟨k0, k1, k2⟩ := hW
    clear hS0 c2 c3 c4 d2 g2 e2 e3 e4 u2 u3 u4 v3 v4 x2
    go_simp
    try (intro hx; exfalso; omega)
  try simp only [Act.put]
  refine wpAnyT_takeT (n := 40) (i := 11) (v := .pointer (some ⟨lb, 0, none⟩)) rfl (by kernel_rfl) (by kernel_rfl) (by kernel_rfl) (by kernel_rfl) (by kernel_rfl) (fun _ _ _ h => h) (Or.inl ⟨by rfl, ?_⟩) hS0 ?_
  · intro W hW
    obtain ⟨k0, k1, k2⟩ := hW
    clear hS0 c2 c3 c4 d2 g2 e2 e3 e4 u2 u3 u4 v3 v4 x2
    go_simp
    try (intro hx; exfalso; omega)
  try simp only [Act.put]
  refine wpAnyT_takeT (n := 40) (i := 12) (v := .pointer (some ⟨lb, 4, none⟩)) rfl (by kernel_rfl) (by kernel_rfl) (by kernel_rfl) (by kernel_rfl) (by kernel_rfl) (fun _ _ _ h => h) (Or.inl ⟨by rfl, ?_⟩) hS0 ?_
  · intro W hW
    obtain ⟨k0, k1, k2⟩ := hW
    clear hS0 c2 c3 c4 d2 g2 e2 e3 e4 u2 u3 u4 v3 v4 x2
    go_simp
    try (intro hx; exfalso; omega)
  try simp only [Act.put]
  refine wpAnyT_takeT (n := 40) (i := 13) (v := .int .i64 (c : Int)) rfl (by kernel_rfl) (by kernel_rfl) (by kernel_rfl) (by kernel_rfl) (by kernel_rfl) (fun _ _ _ h => h) (Or.inl ⟨by rfl, ?_⟩) hS0 ?_
  · intro W hW
    obtain ⟨k0, k1, k2⟩ := hW
    clear hS0 c2 c3 c4 d2 g2 e2 e3 e4 u2 u3 u4 v3 v4 x2
    go_simp
    try (intro hx; exfalso; omega)
  try simp only [Act.put]
  refine wpAnyT_takeT (n := 40) (i := 14) (v := .agg #[.int .i64 (KF : Int), .int .i64 (c : Int), .bool false]) rfl (by kernel_rfl) (by kernel_rfl) (by kernel_rfl) (by kernel_rfl) (by kernel_rfl) (fun _ _ _ h => h) (Or.inl ⟨by rfl, ?_⟩) hS0 ?_
  · intro W hW
    obtain ⟨k0, k1, k2⟩ := hW
    clear hS0 c2 c3 c4 d2 g2 e2 e3 e4 u2 u3 u4 v3 v4 x2
    go_simp
    try (intro hx; exfalso; omega)
  try simp only [Act.put]
  clear hS0
  refine wpAnyT_one (i := 15) rfl (by kernel_rfl) rfl ?_
  go_simp
  rw [hz.out, hw2.out]
  refine wpAnyT_one (i := 16) rfl (by kernel_rfl) rfl ?_
  go_simp
  rw [hs2.out, hw3.out]
  refine ⟨⟨u2, u3, u4⟩, ?_⟩
  refine wpAnyT_one (i := 17) rfl (by kernel_rfl) rfl ?_
  refine wp_append_of (.tmp 22) (.tmp 34) 118 118 rfl _ _ _ w4 rfl rfl hrun.out ?_
  refine ⟨fun _ => ⟨d2, v3, v4⟩, ?_⟩
  clear c2 c3 c4 e2 e3 e4 u2 u3 u4
  try simp only [Act.put, List.setIfInBounds_toArray]
  refine wpAnyT_one (i := 18) rfl (by kernel_rfl) rfl ?_
  go_simp
  refine wpAnyT_one (i := 19) rfl (by kernel_rfl) rfl ?_
  go_simp
  refine wpAnyT_one (i := 20) rfl (by kernel_rfl) rfl ?_
  go_simp
  rw [hW5.out]
  refine wpAnyT_done (by kernel_rfl) ?_ _
  clear d2 g2 v3 v4
  go_wp2
  go_ret2
  exact ⟨rfl, hlog.out, hfr.out⟩
end
end Go.Proofs.YtglcfbefpnphaaaGreatDoor
/-
  takeLast, close and do. Conditions: do of a note that comes back.
-/
namespace Go.Proofs.YtglcfbefpnphaaaGreatDoor
open Go Go.RowKit Go.ChangeMaps

section
variable {w w' : World} {B lb most nest c : Nat} {mv nv : Value} {ms : List Mk} {fs : List Value}
set_option maxRecDepth 100000 in
set_option maxHeartbeats 1000000 in
theorem takeLast_any {v : Value} (h : LogAt w B lb most nest ms (fs ++ [v]) c) :
    Calls Tryz.prog 127 #[ptrV lb] w fun e w' => e = .returned v ∧ LogAt w' B lb most nest ms fs c ∧ Fr B LogT (fun _ => False) w w' := by
  obtain ⟨mv, nv, h⟩ := h
  have hL1 := h
  have hlen : (fs ++ [v]).length = fs.length + 1 := by simp
  have hrow := h.nrow
  rw [hlen] at hrow
  obtain ⟨KF, hKF⟩ : ∃ K, fs.length = K := ⟨_, rfl⟩
  rw [hKF] at hrow hlen
  obtain ⟨g, off, cc, rfl, hcc, hcm, hBg⟩ := hrow.form1 (Nat.succ_pos _)
  have c3 : w.cell? ⟨lb, 3, none⟩ = some (.slice (some ⟨g, off, none⟩) (KF + 1) cc) := h.blk.cell (i := 3) rfl
  have f3 := h.blk.frozen 3
  have hlt := h.blk.lt
  have k1 : w.cell? ⟨g, off + KF, none⟩ = some v := hrow.cell (j := KF) (by rw [← hKF]; simp)
  have fg := hrow.frozen (off + KF)
  have hlg := (hrow.lt (g := g) rfl).2.1
  have hgl : g ≠ lb := Row.ne hrow h.blk (by decide) rfl
  have hfl : KF ≤ 1048576 := by have := h.fc; have := h.cp; have := h.most2; omega
  obtain ⟨k, cap, rfl⟩ := h.fn v (by simp)
  have hr2 := (hrow.set KF .nilFunc).head KF (Nat.le_succ _)
  have e2 : ((fs ++ [Value.func (.func k) #[] cap]).set KF .nilFunc).take KF = fs := by
    rw [← hKF, List.set_append_right _ _ (Nat.le_refl _)]
    exact List.take_left' rfl
  rw [e2] at hr2
  have hb2 : Blk (w.setCell ⟨g, off + KF, none⟩ .nilFunc) lb _ _ := h.blk.other (a := ⟨g, off + KF, none⟩) (Ne.symm hgl) .nilFunc
  have hb3 := hb2.set 3 (.slice (some ⟨g, off, none⟩) KF cc)
  rw [set3L] at hb3
  have hS : Stp (fun b => b = lb ∨ b = g) w ((w.setCell ⟨g, off + KF, none⟩ .nilFunc).setCell ⟨lb, 3, none⟩ (.slice (some ⟨g, off, none⟩) KF cc)) :=
    ((Stp.set (S := fun b => b = lb ∨ b = g) (.inr rfl) _ _).trans (Stp.set (S := fun b => b = lb) rfl 3 _) (fun _ _ h => .inl h))
  have hr3 : Row ((w.setCell ⟨g, off + KF, none⟩ .nilFunc).setCell ⟨lb, 3, none⟩ (.slice (some ⟨g, off, none⟩) KF cc)) B 1 (.slice (some ⟨g, off, none⟩) KF cc) KF fs := hr2.keep fun g' hg => by cases hg; exact heap_setCell_other _ _ g _ hgl
  have hfr : Fr B LogT (fun _ => False) w _ := Fr.of_stp (B := B) (T := LogT) (M := fun _ => False) hS (by
    intro b _ hb
    rcases hb with rfl | rfl
    · exact ⟨hL1.hB, .inr ⟨_, _, _, hL1.blk, .inl rfl⟩⟩
    · obtain ⟨h1, _, cur, h2⟩ := hrow.lt (g := b) rfl
      exact ⟨h1, .inr ⟨_, _, _, h2, .inr (.inr (.inl rfl))⟩⟩)
  have hmr : Row _ B 220 _ _ _ := hL1.mrow.stp hS (fun g' hg hb => by
    rcases hb with hb | hb
    · exact Row.ne hL1.mrow hL1.blk (by decide) hg hb
    · exact Row.ne2 hL1.mrow hrow (by decide) hg rfl hb)
  have hmk : ∀ m ∈ ms, B ≤ m.blk ∧ Blk _ m.blk (mkC m false) 222 := fun m hm => ⟨(hL1.mks m hm).1, (hL1.mks m hm).2.stp hS (fun hb => by
    rcases hb with hb | hb
    · exact (hL1.mks m hm).2.ne hL1.blk (by decide) hb
    · exact Row.ne hrow (hL1.mks m hm).2 (by decide) rfl hb.symm)⟩
  have hfc := hL1.fc
  have hlog : LogAt ((w.setCell ⟨g, off + KF, none⟩ .nilFunc).setCell ⟨lb, 3, none⟩ (.slice (some ⟨g, off, none⟩) KF cc)) B lb most nest ms fs c :=
    ⟨_, _, hL1.hB, hb3, hmr, (by rw [hKF]; exact hr3), hmk, hL1.ap, hL1.nest1, hL1.nest2, hL1.most2, hL1.cp, hL1.mp, (by omega), (fun v hv => hL1.fn v (List.mem_append_left _ hv)), hL1.mc⟩
  have l2 := hb2.lt
  have d3 : (w.setCell ⟨g, off + KF, none⟩ .nilFunc).cell? ⟨lb, 3, none⟩ = some (.slice (some ⟨g, off, none⟩) (KF + 1) cc) := hb2.cell (i := 3) rfl
  have g3 := hb2.frozen 3
  unfold maxLen at hcm
  replace hlog := Lib.hid hlog
  replace hfr := Lib.hid hfr
  unfold ptrV
  clear hmk hmr hr3 hS hb3 hb2 hr2 e2 hL1 h hrow hlen hKF hfc
  go_enter Tryz.func127, Tryz.ntmps127
  go_wp2
  go_ret
  exact ⟨rfl, hlog.out, hfr.out⟩

theorem zeroMk (w : World) : (zeroValue 220).run Tryz.prog w = .ok (.pointer none) w := by kernel_rfl
set_option maxRecDepth 100000 in
set_option maxHeartbeats 1000000 in
theorem close_any {m : Mk} (h : LogAt w B lb most nest (ms ++ [m]) fs c) (hfm : fs.length ≤ m.count) :
    Calls Tryz.prog 128 #[ptrV lb, .int .i64 (ms.length : Int)] w fun e w' => e = .returned (.tuple #[]) ∧ LogAt w' B lb most nest ms fs m.count ∧ Fr B LogT (fun _ => False) w w' := by
  obtain ⟨mv, nv, h⟩ := h
  have hL1 := h
  have hlen : (ms ++ [m]).length = ms.length + 1 := by simp
  have hrow := h.mrow
  rw [hlen] at hrow
  obtain ⟨K, hK⟩ : ∃ K, ms.length = K := ⟨_, rfl⟩
  rw [hK] at hrow hlen ⊢
  obtain ⟨g, off, cc, rfl, hcc, hcm, hBg⟩ := hrow.form1 (Nat.succ_pos _)
  have hmm := h.mks m (by simp)
  obtain ⟨hBm, hmb⟩ := hmm
  obtain ⟨mb, mn, mc⟩ := m
  simp only at hmb hBm hfm ⊢
  have c2 : w.cell? ⟨lb, 2, none⟩ = some (.slice (some ⟨g, off, none⟩) (K + 1) cc) := h.blk.cell (i := 2) rfl
  have hlt := h.blk.lt
  have hlm := hmb.lt
  have k1 : w.cell? ⟨g, off + K, none⟩ = some (.pointer (some ⟨mb, 0, none⟩)) := hrow.cell (j := K) (by rw [← hK]; simp [ptrV])
  have hlg := (hrow.lt (g := g) rfl).2.1
  have hgl : g ≠ lb := Row.ne hrow h.blk (by decide) rfl
  have hgm : g ≠ mb := Row.ne hrow hmb (by decide) rfl
  have hml : mb ≠ lb := hmb.ne h.blk (by decide)
  have hkl : K ≤ 1024 := by have := h.mp; have := h.nest2; omega
  have m2 : w.frozen? ⟨mb, 2, none⟩ = false := hmb.frozen 2
  have x2 : w.cell? ⟨mb, 2, none⟩ = some (.bool false) := hmb.cell (i := 2) rfl
  have x1 : w.cell? ⟨mb, 1, none⟩ = some (.int .i64 (mc : Int)) := hmb.cell (i := 1) rfl
  -- the mark is gone
  have hb1 : Blk (w.setCell ⟨mb, 2, none⟩ (.bool true)) lb _ _ := h.blk.other (a := ⟨mb, 2, none⟩) (Ne.symm hml) _
  have hr1 : Row (w.setCell ⟨mb, 2, none⟩ (.bool true)) B 220 (.slice (some ⟨g, off, none⟩) (K + 1) cc) (K + 1) ((ms ++ [(⟨mb, mn, mc⟩ : Mk)]).map fun m => ptrV m.blk) := hrow.keep fun g' hg => by cases hg; exact heap_setCell_other w ⟨mb, 2, none⟩ g (.bool true) hgm
  have y1 : (w.setCell ⟨mb, 2, none⟩ (.bool true)).cell? ⟨mb, 1, none⟩ = some (.int .i64 (mc : Int)) := (hmb.set 2 (.bool true)).cell (i := 1) rfl
  obtain ⟨w1, hw1⟩ : ∃ w1, w.setCell ⟨mb, 2, none⟩ (.bool true) = w1 := ⟨_, rfl⟩
  have hS1 : Stp (fun b => b = lb ∨ b = g ∨ b = mb) w w1 := by rw [← hw1]; exact Stp.set (S := fun b => b = lb ∨ b = g ∨ b = mb) (.inr (.inr rfl)) _ _
  rw [hw1] at hb1 hr1 y1
  have d4 : w1.cell? ⟨lb, 4, none⟩ = some _ := hb1.cell (i := 4) rfl
  have g4 := hb1.frozen 4
  have l1 := hb1.lt
  have hb2 := hb1.set 4 (.int .i64 (mc : Int))
  rw [set4L] at hb2
  have hr2 : Row (w1.setCell ⟨lb, 4, none⟩ (.int .i64 (mc : Int))) B 220 (.slice (some ⟨g, off, none⟩) (K + 1) cc) (K + 1) ((ms ++ [(⟨mb, mn, mc⟩ : Mk)]).map fun m => ptrV m.blk) := hr1.keep fun g' hg => by cases hg; exact heap_setCell_other w1 _ g _ hgl
  obtain ⟨w2, hw2⟩ : ∃ w2, w1.setCell ⟨lb, 4, none⟩ (.int .i64 (mc : Int)) = w2 := ⟨_, rfl⟩
  have hS2 : Stp (fun b => b = lb ∨ b = g ∨ b = mb) w w2 := hS1.trans (by rw [← hw2]; exact Stp.set (S := fun b => b = lb) rfl _ _) (fun _ _ h => .inl h)
  rw [hw2] at hb2 hr2
  have d2 : w2.cell? ⟨lb, 2, none⟩ = some (.slice (some ⟨g, off, none⟩) (K + 1) cc) := hb2.cell (i := 2) rfl
  have l2 := hb2.lt
  have hcl : ∀ ty, (Builtin.clear_ #[118] ty #[.slice (some ⟨g, off + K, none⟩) 1 (cc - K)]).run Tryz.prog w2 = .ok (.tuple #[]) (w2.setCell ⟨g, off + K, none⟩ (.pointer none)) := fun ty =>
    Lib.run_clear_slice w2 118 220 ty (.pointer none) Tryz.underlying118 zeroMk rfl rfl g (off + K) 1 (cc - K) (by decide)
      (fun j hj => by obtain rfl : j = 0 := by omega
                      rw [Nat.add_zero, hr2.cell (j := K) (u := ptrV mb) (by rw [← hK]; simp)]; rfl) (fun j _ => hr2.frozen _)
  have hr3 := (hr2.set K (.pointer none)).head K (Nat.le_succ _)
  have hb3 : Blk (w2.setCell ⟨g, off + K, none⟩ (.pointer none)) lb _ _ := hb2.other (a := ⟨g, off + K, none⟩) (Ne.symm hgl) (.pointer none)
  have e3 : (((ms ++ [(⟨mb, mn, mc⟩ : Mk)]).map fun m => ptrV m.blk).set K (.pointer none)).take K = ms.map fun m => ptrV m.blk := by
    rw [List.map_append, List.set_append_right _ _ (by simp [hK])]
    exact List.take_left' (by simp [hK])
  rw [e3] at hr3
  obtain ⟨w3, hw3⟩ : ∃ w3, w2.setCell ⟨g, off + K, none⟩ (.pointer none) = w3 := ⟨_, rfl⟩
  have hS3 : Stp (fun b => b = lb ∨ b = g ∨ b = mb) w w3 := hS2.trans (by rw [← hw3]; exact Stp.set (S := fun b => b = g) rfl _ _) (fun _ _ h => .inr (.inl h))
  rw [hw3] at hcl hr3 hb3
  have z2 : w3.cell? ⟨lb, 2, none⟩ = some (.slice (some ⟨g, off, none⟩) (K + 1) cc) := hb3.cell (i := 2) rfl
  have zf := hb3.frozen 2
  have l3 := hb3.lt
  have hb4 := hb3.set 2 (.slice (some ⟨g, off, none⟩) K cc)
  rw [set2L] at hb4
  have hS4 : Stp (fun b => b = lb ∨ b = g ∨ b = mb) w (w3.setCell ⟨lb, 2, none⟩ (.slice (some ⟨g, off, none⟩) K cc)) := hS3.trans (Stp.set (S := fun b => b = lb) rfl _ _) (fun _ _ h => .inl h)
  have hr4 : Row (w3.setCell ⟨lb, 2, none⟩ (.slice (some ⟨g, off, none⟩) K cc)) B 220 (.slice (some ⟨g, off, none⟩) K cc) K (ms.map fun m => ptrV m.blk) := hr3.keep fun g' hg => by cases hg; exact heap_setCell_other w3 _ g _ hgl
  have hfr : Fr B LogT (fun _ => False) w _ := Fr.of_stp (B := B) (T := LogT) (M := fun _ => False) hS4 (by
    intro b _ hb
    rcases hb with rfl | rfl | rfl
    · exact ⟨hL1.hB, .inr ⟨_, _, _, hL1.blk, .inl rfl⟩⟩
    · obtain ⟨h1, _, cur, h2⟩ := hrow.lt (g := b) rfl
      exact ⟨h1, .inr ⟨_, _, _, h2, .inr (.inl rfl)⟩⟩
    · exact ⟨hBm, .inr ⟨_, _, _, hmb, .inr (.inr (.inr rfl))⟩⟩)
  have hnr : Row _ B 1 _ _ _ := hL1.nrow.stp hS4 (fun g' hg hb => by
    rcases hb with hb | hb | hb
    · exact Row.ne hL1.nrow hL1.blk (by decide) hg hb
    · exact Row.ne2 hL1.nrow hrow (by decide) hg rfl hb
    · exact Row.ne hL1.nrow hmb (by decide) hg hb)
  have hap := hL1.ap
  rw [List.map_append, List.nodup_append] at hap
  have hmk : ∀ m ∈ ms, B ≤ m.blk ∧ Blk _ m.blk (mkC m false) 222 := fun m hm => ⟨(hL1.mks m (List.mem_append_left _ hm)).1, (hL1.mks m (List.mem_append_left _ hm)).2.stp hS4 (fun hb => by
    rcases hb with hb | hb | hb
    · exact (hL1.mks m (List.mem_append_left _ hm)).2.ne hL1.blk (by decide) hb
    · exact Row.ne hrow (hL1.mks m (List.mem_append_left _ hm)).2 (by decide) rfl hb.symm
    · exact hap.2.2 m.blk (List.mem_map.2 ⟨m, hm, rfl⟩) mb (by simp) hb)⟩
  have hmp := hL1.mp
  have hmc := hL1.mc ⟨mb, mn, mc⟩ (by simp)
  have hlog : LogAt (w3.setCell ⟨lb, 2, none⟩ (.slice (some ⟨g, off, none⟩) K cc)) B lb most nest ms fs mc :=
    ⟨_, _, hL1.hB, hb4, (by rw [hK]; exact hr4), hnr, hmk, hap.1, hL1.nest1, hL1.nest2, hL1.most2, hmc.2, (by rw [hlen] at hmp; omega), hfm, hL1.fn, (fun m hm => hL1.mc m (List.mem_append_left _ hm))⟩
  unfold maxLen at hcm
  have hck : ¬ cc = K := by omega
  replace hlog := Lib.hid hlog
  replace hfr := Lib.hid hfr
  unfold ptrV
  replace hw1 := Lib.hid hw1
  replace hw2 := Lib.hid hw2
  replace hw3 := Lib.hid hw3
  replace hcl := Lib.hid hcl
  clear hmc hmp hmk hap hnr hr4 hS4 hb4 hS3 hr3 hb3 e3 hS2 hb2 hr2 hS1 hb1 hr1 hL1 h hrow hlen hK hmb hBm hfm
  go_enter Tryz.func128, Tryz.ntmps128
  go_upto_region 2 with fail
  rw [hw1.out]
  clear c2 k1 m2 x2 x1
  go_upto_region 3 with fail
  rw [hw2.out]
  clear d4 g4 y1
  go_upto_region 4 with (simp only [hcl.out])
  go_wp2
  go_end0
  exact ⟨rfl, hlog.out, hfr.out⟩
end
/-- Behind a return recover finds nothing. -/
theorem do1_idle (w : World) :
    CallsD Tryz.prog 153 #[] .returning w fun e u' w' => e = .returned (.tuple #[]) ∧ u' = .returning ∧ w' = w := by
  refine callsD_of_wpS Tryz.func153 rfl fun c₀ cs hu => ?_
  apply wpS_region
  simp [wpOpsS, go_sem, recoverD, hu, Tryz.ntmps153]
  cases c₀
  simp_all [bodyPostS, results, Tryz.results153]
set_option maxRecDepth 100000 in
theorem do_any (k : Nat) (cap : Array Value) (R : World → Prop) (w : World) (hen : Enters Tryz.prog k) (hc : Calls Tryz.prog k cap w fun e w' => e = .returned (.tuple #[]) ∧ R w') :
    Calls Tryz.prog 126 #[.func (.func k) #[] cap] w fun e w' => e = .returned (.tuple #[]) ∧ R w' := by
  have hen2 := hen cap w
  replace hc := Lib.hid hc
  clear hen
  go_enter_defers Tryz.func126, Tryz.ntmps126
  go_wp2_with fail
  refine hc.out.mono ?_
  rintro e w' ⟨rfl, hR⟩
  clear hen2
  go_wp2
  refine leaves_cons (f := 153) (args := #[]) (by simp) (by simp [go_sem]) ?_
  refine (do1_idle w').mono ?_
  rintro e u' w2 ⟨rfl, rfl, rfl⟩
  simp [Leaves, settle, results, Tryz.results126, go_sem]
  exact hR
end Go.Proofs.YtglcfbefpnphaaaGreatDoor
/-
  Undo: where there is no log, without a mark, and of whatever notes: all behind the mark are done from the last one on. Conditions: each note comes back and leaves the log alone.
-/
namespace Go.Proofs.YtglcfbefpnphaaaGreatDoor
open Go Go.RowKit Go.ChangeMaps

section
variable {w w' : World} {B lb most nest c : Nat} {mv nv : Value} {ms : List Mk} {fs : List Value}
/-- How many notes a log has, read off its block. -/
def lenN (lb : Nat) (w : World) : Nat := match w.cell? ⟨lb, 3, none⟩ with | some (.slice _ n _) => n | _ => 0
theorem LogR.lenN (h : LogR w B lb most nest mv ms nv fs c) : lenN lb w = fs.length := by
  obtain ⟨A, cc, rfl, hc, hcm⟩ := h.nrow.form
  have c3 : w.cell? ⟨lb, 3, none⟩ = some (.slice A fs.length cc) := h.blk.cell (i := 3) rfl
  unfold Proofs.YtglcfbefpnphaaaGreatDoor.lenN
  rw [c3]
theorem LogAt.lenN (h : LogAt w B lb most nest ms fs c) : Proofs.YtglcfbefpnphaaaGreatDoor.lenN lb w = fs.length := by obtain ⟨mv, nv, h⟩ := h; exact h.lenN
theorem take_snocV (fs : List Value) (i : Nat) (h : i < fs.length) : fs.take (i + 1) = fs.take i ++ [fs[i]] := List.take_succ_eq_append_getElem h

set_option maxRecDepth 100000 in
set_option maxHeartbeats 2000000 in
theorem LogUndo_any {m : Mk} (h : LogAt w B lb most nest (ms ++ [m]) fs c) (hmn : m.notes ≤ fs.length) (I : Nat → World → Prop) (h0 : I fs.length w)
    (keep : ∀ j W W', I j W → Fr B LogT (fun _ => False) W W' → I j W')
    (call : ∀ j W (hj : j < fs.length), m.notes ≤ j → I (j + 1) W → ∃ k cap, fs[j] = .func (.func k) #[] cap ∧ Enters Tryz.prog k ∧ Calls Tryz.prog k cap W fun e W' => e = .returned (.tuple #[]) ∧ I j W' ∧ KeepL W W') :
    Calls Tryz.prog 81 #[ptrV lb] w fun e w' => e = .returned (.int .i64 0) ∧ LogAt w' B lb most nest ms (fs.take m.notes) m.count ∧ I m.notes w' := by
  obtain ⟨mv, nv, h1⟩ := h
  have hi := lisNil_no h1
  have hlen : (ms ++ [m]).length = ms.length + 1 := by simp
  have hrow := h1.mrow
  rw [hlen] at hrow
  obtain ⟨K, hK⟩ : ∃ K, ms.length = K := ⟨_, rfl⟩
  rw [hK] at hrow hlen
  obtain ⟨g, off, cc, rfl, hcc, hcm, hBg⟩ := hrow.form1 (Nat.succ_pos _)
  obtain ⟨mb, mn, mc⟩ := m
  simp only at hmn call ⊢
  have c2 : w.cell? ⟨lb, 2, none⟩ = some (.slice (some ⟨g, off, none⟩) (K + 1) cc) := h1.blk.cell (i := 2) (by rw [← hlen]; rfl)
  have hlt := h1.blk.lt
  have k1 : w.cell? ⟨g, off + K, none⟩ = some (.pointer (some ⟨mb, 0, none⟩)) := hrow.cell (j := K) (by rw [← hK]; simp [ptrV])
  have hkl : K ≤ 1024 := by have := h1.mp; have := h1.nest2; omega
  have hmc : mn ≤ mc := (h1.mc ⟨mb, mn, mc⟩ (by simp)).1
  have hne0 : ((K : Int) + 1 == 0) = false := by rw [beq_eq_false_iff_ne]; omega
  have hL0 : LogAt w B lb most nest (ms ++ [⟨mb, mn, mc⟩]) (fs.take fs.length) c := by rw [List.take_length]; exact ⟨_, _, h1⟩
  have hfl : fs.length ≤ 1048576 := by have := h1.fc; have := h1.cp; have := h1.most2; omega
  replace hL0 := Lib.hid hL0
  replace h0 := Lib.hid h0
  replace keep := Lib.hid keep
  replace call := Lib.hid call
  replace hK := Lib.hid hK
  unfold maxLen at hcm
  unfold ptrV at hi ⊢
  obtain ⟨FT, hFT⟩ : ∃ F, fs.take mn = F := ⟨_, rfl⟩
  rw [hFT]
  replace hFT := Lib.hid hFT
  clear h1 hlen hrow
  go_enter Tryz.func81, Tryz.ntmps81
  go_wp2_with fail
  refine hi.mono ?_
  rintro e w' ⟨rfl, hw⟩
  obtain rfl := hw.symm
  clear hi
  go_wp2_with fail
  clear c2 k1
  go_loopw [28] (fun _ wr => ∃ j, mn ≤ j ∧ j ≤ fs.length ∧ LogAt wr B lb most nest (ms ++ [⟨mb, mn, mc⟩]) (fs.take j) c ∧ I j wr) (fun _ wr => lenN lb wr)
  case atStart => exact ⟨fs.length, hmn, Nat.le_refl _, hL0.out, h0.out⟩
  case round =>
    obtain ⟨j, hj1, hj2, hL, hI⟩ := hrel
    have hLn := hL.lenN
    have hLd : ∀ n, LogAt (wr.drewN n) B lb most nest (ms ++ [⟨mb, mn, mc⟩]) (fs.take j) c := fun n => hL.keep (KeepL.drewN wr n)
    obtain ⟨mv', nv', hR⟩ := hL
    have hjl : (fs.take j).length = j := by rw [List.length_take]; omega
    have hnr := hR.nrow
    rw [hjl] at hLn
    rw [hjl] at hnr
    obtain ⟨A2, cc2, rfl, hc2, hcm2⟩ := hnr.form
    have c3 : wr.cell? ⟨lb, 3, none⟩ = some (.slice A2 j cc2) := hR.blk.cell (i := 3) rfl
    have hmb := (hR.mks ⟨mb, mn, mc⟩ (by simp)).2
    have x0 : wr.cell? ⟨mb, 0, none⟩ = some (.int .i64 (mn : Int)) := hmb.cell (i := 0) rfl
    have x2 : wr.cell? ⟨mb, 2, none⟩ = some (.bool false) := hmb.cell (i := 2) rfl
    have hlm := hmb.lt
    have hll := hR.blk.lt
    have hfn := hR.fn
    have hBw : B ≤ wr.heap.size := by have := hR.hB; omega
    unfold maxLen at hcm2
    replace hLd := Lib.hid hLd
    replace hI := Lib.hid hI
    replace hLn := Lib.hid hLn
    replace hjl := Lib.hid hjl
    replace hfn := Lib.hid hfn
    clear hR hnr hmb
    by_cases hlt2 : mn < j
    · obtain ⟨i, rfl⟩ : ∃ i, j = i + 1 := ⟨j - 1, by omega⟩
      have hif : i < fs.length := by omega
      have hd : decide (mn < i + 1) = true := by simpa using hlt2
      obtain ⟨k, cap, hfi⟩ := hfn.out fs[i] (by rw [take_snocV fs i hif]; exact List.mem_append_right _ (List.mem_singleton.2 rfl))
      have hts := take_snocV fs i hif
      rw [hfi] at hts
      have htk : ∀ n, LogAt (wr.drewN n) B lb most nest (ms ++ [⟨mb, mn, mc⟩]) (fs.take i ++ [.func (.func k) #[] cap]) c := fun n => by rw [← hts]; exact hLd.out n
      have hcl : ∀ W, I (i + 1) W → Enters Tryz.prog k ∧ Calls Tryz.prog k cap W fun e W' => e = .returned (.tuple #[]) ∧ I i W' ∧ KeepL W W' := fun W hW => by
        obtain ⟨k', cap', h1, h2, h3⟩ := call.out i W hif (by omega) hW
        rw [hfi] at h1
        obtain ⟨e1, _, e2⟩ := Value.func.inj h1
        obtain rfl := Fn.func.inj e1
        subst e2
        exact ⟨h2, h3⟩
      replace hfi := Lib.hid hfi
      replace hts := Lib.hid hts
      replace htk := Lib.hid htk
      replace hcl := Lib.hid hcl
      go_wp2_with fail
      go_quiet (fail)
      go_wp2_with fail
      refine (takeLast_any (htk.out nq)).mono ?_
      rintro e w1 ⟨rfl, hL1, hF1⟩
      have hI1 := keep.out (i + 1) wr w1 hI.out ((Fr.drewN _ _ _ _ _).trans hF1)
      obtain ⟨hen, hcall⟩ := hcl.out w1 hI1
      have hdo := do_any k cap (fun W' => I i W' ∧ KeepL w1 W') w1 hen hcall
      replace hL1 := Lib.hid hL1
      replace hdo := Lib.hid hdo
      clear hen hcall hI1 hF1 x0 x2 c3
      go_wp2_with fail
      refine hdo.out.mono ?_
      rintro e w2 ⟨rfl, hI2, hK2⟩
      have hL2 := hL1.out.keep hK2
      have hm : lenN lb w2 < lenN lb wr := by
        rw [hL2.lenN, hLn.out, List.length_take]
        omega
      replace hL2 := Lib.hid hL2
      replace hI2 := Lib.hid hI2
      clear hdo hK2
      go_wp2
      go_roundw
      case rel => exact ⟨i, by omega, by omega, hL2.out, hI2.out⟩
      case measure => exact hm
    · obtain rfl : mn = j := by omega
      have hd : decide (mn < mn) = false := by simp
      have hcl : ∀ n, LogAt (wr.drewN n) B lb most nest (ms ++ [⟨mb, mn, mc⟩]) FT c := fun n => by rw [← hFT.out]; exact hLd.out n
      have hcc2 := fun n => close_any (hcl n) (by rw [← hFT.out, hjl.out]; exact hmc)
      rw [hK.out] at hcc2
      have hI2 : ∀ n, I mn (wr.drewN n) := fun n => keep.out mn wr _ hI.out (Fr.drewN _ _ _ _ _)
      unfold ptrV at hcc2
      replace hcc2 := Lib.hid hcc2
      replace hI2 := Lib.hid hI2
      clear hcl
      go_wp2_with fail
      go_quiet (fail)
      go_wp2_with fail
      refine (hcc2.out nq).mono ?_
      rintro e w1 ⟨rfl, hL1, hF1⟩
      have hI1 := keep.out mn _ w1 (hI2.out nq) hF1
      replace hL1 := Lib.hid hL1
      replace hI1 := Lib.hid hI1
      clear hF1 x0 x2 c3
      go_wp2
      go_ret
      exact ⟨rfl, hL1.out, hI1.out⟩
end
end Go.Proofs.YtglcfbefpnphaaaGreatDoor
