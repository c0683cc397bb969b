/-
  takeLast, close and do. Conditions: do of a note that comes back.
-/
import Derived.Test.YtigmdfdcflkggaaGreatUdMark
import Derived.Lib.SliceRun
import Derived.Defers
import Derived.Recover
import Derived.Laws.EntriesVeiled
import Derived.BigFrame
import Derived.Deep.Cut
import Derived.Deep.DeepCutAuto
import Derived.Shelf.Abstract
namespace Go.Proofs.YtigmdfdcflkggaaGreat
open Go Go.RowKit Go.ChangeMaps

section
variable {w w' : World} {B lb most nest c : Nat} {mv nv : Value} {ms : List Mk} {fs : List Value}
set_option maxRecDepth 100000 in
set_option maxHeartbeats 1000000 in
theorem takeLast_any {v : Value} (h : LogAt w B lb most nest ms (fs ++ [v]) c) :
    Calls Tryz.prog 81 #[ptrV lb] w fun e w' => e = .returned v ∧ LogAt w' B lb most nest ms fs c ∧ Fr B LogT (fun _ => False) w w' := by
  obtain ⟨mv, nv, h⟩ := h
  have hL1 := h
  have hlen : (fs ++ [v]).length = fs.length + 1 := by simp
  have hrow := h.nrow
  rw [hlen] at hrow
  obtain ⟨KF, hKF⟩ : ∃ K, fs.length = K := ⟨_, rfl⟩
  rw [hKF] at hrow hlen
  obtain ⟨g, off, cc, rfl, hcc, hcm, hBg⟩ := hrow.form1 (Nat.succ_pos _)
  have c3 : w.cell? ⟨lb, 3, none⟩ = some (.slice (some ⟨g, off, none⟩) (KF + 1) cc) := h.blk.cell (i := 3) rfl
  have f3 := h.blk.frozen 3
  have hlt := h.blk.lt
  have k1 : w.cell? ⟨g, off + KF, none⟩ = some v := hrow.cell (j := KF) (by rw [← hKF]; simp)
  have fg := hrow.frozen (off + KF)
  have hlg := (hrow.lt (g := g) rfl).2.1
  have hgl : g ≠ lb := Row.ne hrow h.blk (by decide) rfl
  have hfl : KF ≤ 1048576 := by have := h.fc; have := h.cp; have := h.most2; omega
  obtain ⟨k, cap, rfl⟩ := h.fn v (by simp)
  have hr2 := (hrow.set KF .nilFunc).head KF (Nat.le_succ _)
  have e2 : ((fs ++ [Value.func (.func k) #[] cap]).set KF .nilFunc).take KF = fs := by
    rw [← hKF, List.set_append_right _ _ (Nat.le_refl _)]
    exact List.take_left' rfl
  rw [e2] at hr2
  have hb2 : Blk (w.setCell ⟨g, off + KF, none⟩ .nilFunc) lb _ _ := h.blk.other (a := ⟨g, off + KF, none⟩) (Ne.symm hgl) .nilFunc
  have hb3 := hb2.set 3 (.slice (some ⟨g, off, none⟩) KF cc)
  rw [set3L] at hb3
  have hS : Stp (fun b => b = lb ∨ b = g) w ((w.setCell ⟨g, off + KF, none⟩ .nilFunc).setCell ⟨lb, 3, none⟩ (.slice (some ⟨g, off, none⟩) KF cc)) :=
    ((Stp.set (S := fun b => b = lb ∨ b = g) (.inr rfl) _ _).trans (Stp.set (S := fun b => b = lb) rfl 3 _) (fun _ _ h => .inl h))
  have hr3 : Row ((w.setCell ⟨g, off + KF, none⟩ .nilFunc).setCell ⟨lb, 3, none⟩ (.slice (some ⟨g, off, none⟩) KF cc)) B 1 (.slice (some ⟨g, off, none⟩) KF cc) KF fs := hr2.keep fun g' hg => by cases hg; exact heap_setCell_other _ _ g _ hgl
  have hfr : Fr B LogT (fun _ => False) w _ := Fr.of_stp (B := B) (T := LogT) (M := fun _ => False) hS (by
    intro b _ hb
    rcases hb with rfl | rfl
    · exact ⟨hL1.hB, .inr ⟨_, _, _, hL1.blk, .inl rfl⟩⟩
    · obtain ⟨h1, _, cur, h2⟩ := hrow.lt (g := b) rfl
      exact ⟨h1, .inr ⟨_, _, _, h2, .inr (.inr (.inl rfl))⟩⟩)
  have hmr : Row _ B 112 _ _ _ := hL1.mrow.stp hS (fun g' hg hb => by
    rcases hb with hb | hb
    · exact Row.ne hL1.mrow hL1.blk (by decide) hg hb
    · exact Row.ne2 hL1.mrow hrow (by decide) hg rfl hb)
  have hmk : ∀ m ∈ ms, B ≤ m.blk ∧ Blk _ m.blk (mkC m false) 114 := fun m hm => ⟨(hL1.mks m hm).1, (hL1.mks m hm).2.stp hS (fun hb => by
    rcases hb with hb | hb
    · exact (hL1.mks m hm).2.ne hL1.blk (by decide) hb
    · exact Row.ne hrow (hL1.mks m hm).2 (by decide) rfl hb.symm)⟩
  have hfc := hL1.fc
  have hlog : LogAt ((w.setCell ⟨g, off + KF, none⟩ .nilFunc).setCell ⟨lb, 3, none⟩ (.slice (some ⟨g, off, none⟩) KF cc)) B lb most nest ms fs c :=
    ⟨_, _, hL1.hB, hb3, hmr, (by rw [hKF]; exact hr3), hmk, hL1.ap, hL1.nest1, hL1.nest2, hL1.most2, hL1.cp, hL1.mp, (by omega), (fun v hv => hL1.fn v (List.mem_append_left _ hv)), hL1.mc⟩
  have l2 := hb2.lt
  have d3 : (w.setCell ⟨g, off + KF, none⟩ .nilFunc).cell? ⟨lb, 3, none⟩ = some (.slice (some ⟨g, off, none⟩) (KF + 1) cc) := hb2.cell (i := 3) rfl
  have g3 := hb2.frozen 3
  unfold maxLen at hcm
  replace hlog := Lib.hid hlog
  replace hfr := Lib.hid hfr
  unfold ptrV
  clear hmk hmr hr3 hS hb3 hb2 hr2 e2 hL1 h hrow hlen hKF hfc
  go_enter Tryz.func81, Tryz.ntmps81
  go_wp2
  go_ret
  exact ⟨rfl, hlog.out, hfr.out⟩

theorem zeroMk (w : World) : (zeroValue 112).run Tryz.prog w = .ok (.pointer none) w := by kernel_rfl
set_option maxRecDepth 100000 in
set_option maxHeartbeats 1000000 in
theorem close_any {m : Mk} (h : LogAt w B lb most nest (ms ++ [m]) fs c) (hfm : fs.length ≤ m.count) :
    Calls Tryz.prog 82 #[ptrV lb, .int .i64 (ms.length : Int)] w fun e w' => e = .returned (.tuple #[]) ∧ LogAt w' B lb most nest ms fs m.count ∧ Fr B LogT (fun _ => False) w w' := by
  obtain ⟨mv, nv, h⟩ := h
  have hL1 := h
  have hlen : (ms ++ [m]).length = ms.length + 1 := by simp
  have hrow := h.mrow
  rw [hlen] at hrow
  obtain ⟨K, hK⟩ : ∃ K, ms.length = K := ⟨_, rfl⟩
  rw [hK] at hrow hlen ⊢
  obtain ⟨g, off, cc, rfl, hcc, hcm, hBg⟩ := hrow.form1 (Nat.succ_pos _)
  have hmm := h.mks m (by simp)
  obtain ⟨hBm, hmb⟩ := hmm
  obtain ⟨mb, mn, mc⟩ := m
  simp only at hmb hBm hfm ⊢
  have c2 : w.cell? ⟨lb, 2, none⟩ = some (.slice (some ⟨g, off, none⟩) (K + 1) cc) := h.blk.cell (i := 2) rfl
  have hlt := h.blk.lt
  have hlm := hmb.lt
  have k1 : w.cell? ⟨g, off + K, none⟩ = some (.pointer (some ⟨mb, 0, none⟩)) := hrow.cell (j := K) (by rw [← hK]; simp [ptrV])
  have hlg := (hrow.lt (g := g) rfl).2.1
  have hgl : g ≠ lb := Row.ne hrow h.blk (by decide) rfl
  have hgm : g ≠ mb := Row.ne hrow hmb (by decide) rfl
  have hml : mb ≠ lb := hmb.ne h.blk (by decide)
  have hkl : K ≤ 1024 := by have := h.mp; have := h.nest2; omega
  have m2 : w.frozen? ⟨mb, 2, none⟩ = false := hmb.frozen 2
  have x2 : w.cell? ⟨mb, 2, none⟩ = some (.bool false) := hmb.cell (i := 2) rfl
  have x1 : w.cell? ⟨mb, 1, none⟩ = some (.int .i64 (mc : Int)) := hmb.cell (i := 1) rfl
  -- the mark is gone
  have hb1 : Blk (w.setCell ⟨mb, 2, none⟩ (.bool true)) lb _ _ := h.blk.other (a := ⟨mb, 2, none⟩) (Ne.symm hml) _
  have hr1 : Row (w.setCell ⟨mb, 2, none⟩ (.bool true)) B 112 (.slice (some ⟨g, off, none⟩) (K + 1) cc) (K + 1) ((ms ++ [(⟨mb, mn, mc⟩ : Mk)]).map fun m => ptrV m.blk) := hrow.keep fun g' hg => by cases hg; exact heap_setCell_other w ⟨mb, 2, none⟩ g (.bool true) hgm
  have y1 : (w.setCell ⟨mb, 2, none⟩ (.bool true)).cell? ⟨mb, 1, none⟩ = some (.int .i64 (mc : Int)) := (hmb.set 2 (.bool true)).cell (i := 1) rfl
  obtain ⟨w1, hw1⟩ : ∃ w1, w.setCell ⟨mb, 2, none⟩ (.bool true) = w1 := ⟨_, rfl⟩
  have hS1 : Stp (fun b => b = lb ∨ b = g ∨ b = mb) w w1 := by rw [← hw1]; exact Stp.set (S := fun b => b = lb ∨ b = g ∨ b = mb) (.inr (.inr rfl)) _ _
  rw [hw1] at hb1 hr1 y1
  have d4 : w1.cell? ⟨lb, 4, none⟩ = some _ := hb1.cell (i := 4) rfl
  have g4 := hb1.frozen 4
  have l1 := hb1.lt
  have hb2 := hb1.set 4 (.int .i64 (mc : Int))
  rw [set4L] at hb2
  have hr2 : Row (w1.setCell ⟨lb, 4, none⟩ (.int .i64 (mc : Int))) B 112 (.slice (some ⟨g, off, none⟩) (K + 1) cc) (K + 1) ((ms ++ [(⟨mb, mn, mc⟩ : Mk)]).map fun m => ptrV m.blk) := hr1.keep fun g' hg => by cases hg; exact heap_setCell_other w1 _ g _ hgl
  obtain ⟨w2, hw2⟩ : ∃ w2, w1.setCell ⟨lb, 4, none⟩ (.int .i64 (mc : Int)) = w2 := ⟨_, rfl⟩
  have hS2 : Stp (fun b => b = lb ∨ b = g ∨ b = mb) w w2 := hS1.trans (by rw [← hw2]; exact Stp.set (S := fun b => b = lb) rfl _ _) (fun _ _ h => .inl h)
  rw [hw2] at hb2 hr2
  have d2 : w2.cell? ⟨lb, 2, none⟩ = some (.slice (some ⟨g, off, none⟩) (K + 1) cc) := hb2.cell (i := 2) rfl
  have l2 := hb2.lt
  have hcl : ∀ ty, (Builtin.clear_ #[98] ty #[.slice (some ⟨g, off + K, none⟩) 1 (cc - K)]).run Tryz.prog w2 = .ok (.tuple #[]) (w2.setCell ⟨g, off + K, none⟩ (.pointer none)) := fun ty =>
    Lib.run_clear_slice w2 98 112 ty (.pointer none) Tryz.underlying98 zeroMk rfl rfl g (off + K) 1 (cc - K) (by decide)
      (fun j hj => by obtain rfl : j = 0 := by omega
                      rw [Nat.add_zero, hr2.cell (j := K) (u := ptrV mb) (by rw [← hK]; simp)]; rfl) (fun j _ => hr2.frozen _)
  have hr3 := (hr2.set K (.pointer none)).head K (Nat.le_succ _)
  have hb3 : Blk (w2.setCell ⟨g, off + K, none⟩ (.pointer none)) lb _ _ := hb2.other (a := ⟨g, off + K, none⟩) (Ne.symm hgl) (.pointer none)
  have e3 : (((ms ++ [(⟨mb, mn, mc⟩ : Mk)]).map fun m => ptrV m.blk).set K (.pointer none)).take K = ms.map fun m => ptrV m.blk := by
    rw [List.map_append, List.set_append_right _ _ (by simp [hK])]
    exact List.take_left' (by simp [hK])
  rw [e3] at hr3
  obtain ⟨w3, hw3⟩ : ∃ w3, w2.setCell ⟨g, off + K, none⟩ (.pointer none) = w3 := ⟨_, rfl⟩
  have hS3 : Stp (fun b => b = lb ∨ b = g ∨ b = mb) w w3 := hS2.trans (by rw [← hw3]; exact Stp.set (S := fun b => b = g) rfl _ _) (fun _ _ h => .inr (.inl h))
  rw [hw3] at hcl hr3 hb3
  have z2 : w3.cell? ⟨lb, 2, none⟩ = some (.slice (some ⟨g, off, none⟩) (K + 1) cc) := hb3.cell (i := 2) rfl
  have zf := hb3.frozen 2
  have l3 := hb3.lt
  have hb4 := hb3.set 2 (.slice (some ⟨g, off, none⟩) K cc)
  rw [set2L] at hb4
  have hS4 : Stp (fun b => b = lb ∨ b = g ∨ b = mb) w (w3.setCell ⟨lb, 2, none⟩ (.slice (some ⟨g, off, none⟩) K cc)) := hS3.trans (Stp.set (S := fun b => b = lb) rfl _ _) (fun _ _ h => .inl h)
  have hr4 : Row (w3.setCell ⟨lb, 2, none⟩ (.slice (some ⟨g, off, none⟩) K cc)) B 112 (.slice (some ⟨g, off, none⟩) K cc) K (ms.map fun m => ptrV m.blk) := hr3.keep fun g' hg => by cases hg; exact heap_setCell_other w3 _ g _ hgl
  have hfr : Fr B LogT (fun _ => False) w _ := Fr.of_stp (B := B) (T := LogT) (M := fun _ => False) hS4 (by
    intro b _ hb
    rcases hb with rfl | rfl | rfl
    · exact ⟨hL1.hB, .inr ⟨_, _, _, hL1.blk, .inl rfl⟩⟩
    · obtain ⟨h1, _, cur, h2⟩ := hrow.lt (g := b) rfl
      exact ⟨h1, .inr ⟨_, _, _, h2, .inr (.inl rfl)⟩⟩
    · exact ⟨hBm, .inr ⟨_, _, _, hmb, .inr (.inr (.inr rfl))⟩⟩)
  have hnr : Row _ B 1 _ _ _ := hL1.nrow.stp hS4 (fun g' hg hb => by
    rcases hb with hb | hb | hb
    · exact Row.ne hL1.nrow hL1.blk (by decide) hg hb
    · exact Row.ne2 hL1.nrow hrow (by decide) hg rfl hb
    · exact Row.ne hL1.nrow hmb (by decide) hg hb)
  have hap := hL1.ap
  rw [List.map_append, List.nodup_append] at hap
  have hmk : ∀ m ∈ ms, B ≤ m.blk ∧ Blk _ m.blk (mkC m false) 114 := fun m hm => ⟨(hL1.mks m (List.mem_append_left _ hm)).1, (hL1.mks m (List.mem_append_left _ hm)).2.stp hS4 (fun hb => by
    rcases hb with hb | hb | hb
    · exact (hL1.mks m (List.mem_append_left _ hm)).2.ne hL1.blk (by decide) hb
    · exact Row.ne hrow (hL1.mks m (List.mem_append_left _ hm)).2 (by decide) rfl hb.symm
    · exact hap.2.2 m.blk (List.mem_map.2 ⟨m, hm, rfl⟩) mb (by simp) hb)⟩
  have hmp := hL1.mp
  have hmc := hL1.mc ⟨mb, mn, mc⟩ (by simp)
  have hlog : LogAt (w3.setCell ⟨lb, 2, none⟩ (.slice (some ⟨g, off, none⟩) K cc)) B lb most nest ms fs mc :=
    ⟨_, _, hL1.hB, hb4, (by rw [hK]; exact hr4), hnr, hmk, hap.1, hL1.nest1, hL1.nest2, hL1.most2, hmc.2, (by rw [hlen] at hmp; omega), hfm, hL1.fn, (fun m hm => hL1.mc m (List.mem_append_left _ hm))⟩
  unfold maxLen at hcm
  have hck : ¬ cc = K := by omega
  replace hlog := Lib.hid hlog
  replace hfr := Lib.hid hfr
  unfold ptrV
  replace hw1 := Lib.hid hw1
  replace hw2 := Lib.hid hw2
  replace hw3 := Lib.hid hw3
  replace hcl := Lib.hid hcl
  clear hmc hmp hmk hap hnr hr4 hS4 hb4 hS3 hr3 hb3 e3 hS2 hb2 hr2 hS1 hb1 hr1 hL1 h hrow hlen hK hmb hBm hfm
  go_enter Tryz.func82, Tryz.ntmps82
  go_upto_region 2 with fail
  rw [hw1.out]
  clear c2 k1 m2 x2 x1
  go_upto_region 3 with fail
  rw [hw2.out]
  clear d4 g4 y1
  go_upto_region 4 with (simp only [hcl.out])
  go_wp2
  go_end0
  exact ⟨rfl, hlog.out, hfr.out⟩
end
/-- Behind a return recover finds nothing. -/
theorem do1_idle (w : World) :
    CallsD Tryz.prog 120 #[] .returning w fun e u' w' => e = .returned (.tuple #[]) ∧ u' = .returning ∧ w' = w := by
  refine callsD_of_wpS Tryz.func120 rfl fun c₀ cs hu => ?_
  apply wpS_region
  simp [wpOpsS, go_sem, recoverD, hu, Tryz.ntmps120]
  cases c₀
  simp_all [bodyPostS, results, Tryz.results120]
set_option maxRecDepth 100000 in
theorem do_any (k : Nat) (cap : Array Value) (R : World → Prop) (w : World) (hen : Enters Tryz.prog k) (hc : Calls Tryz.prog k cap w fun e w' => e = .returned (.tuple #[]) ∧ R w') :
    Calls Tryz.prog 80 #[.func (.func k) #[] cap] w fun e w' => e = .returned (.tuple #[]) ∧ R w' := by
  have hen2 := hen cap w
  replace hc := Lib.hid hc
  clear hen
  go_enter_defers Tryz.func80, Tryz.ntmps80
  go_wp2_with fail
  refine hc.out.mono ?_
  rintro e w' ⟨rfl, hR⟩
  clear hen2
  go_wp2
  refine leaves_cons (f := 120) (args := #[]) (by simp) (by simp [go_sem]) ?_
  refine (do1_idle w').mono ?_
  rintro e u' w2 ⟨rfl, rfl, rfl⟩
  simp [Leaves, settle, results, Tryz.results80, go_sem]
  exact hR
end Go.Proofs.YtigmdfdcflkggaaGreat
