/-
  takeLast, close and do. Conditions: do of a note that comes back.
-/
import Derived.Lib.SliceRun
import Derived.Defers
import Derived.Recover
import Derived.Laws.EntriesVeiled
import Derived.BigFrame
import Derived.Deep.Cut
import Derived.Deep.DeepCutAuto
import Derived.Shelf.Abstract
import Derived.StillTailTactics
import Derived.Test.YtigmdfdcflkggaaGreatZp0
namespace Go.Proofs.YtigmdfdcflkggaaGreat
open Go Go.RowKit Go.ChangeMaps

section
variable {w w' : World} {B lb most nest c : Nat} {mv nv : Value} {ms : List Mk} {fs : List Value}
set_option maxRecDepth 100000 in
set_option maxHeartbeats 1000000 in
theorem takeLast_any {v : Value} (h : LogAt w B lb most nest ms (fs ++ [v]) c) :
    Calls Tryz.prog 81 #[ptrV lb] w fun e w' => e = .returned v ∧ LogAt w' B lb most nest ms fs c ∧ Fr B LogT (fun _ => False) w w' := by
  obtain ⟨mv, nv, h⟩ := h
  have hL1 := h
  have hlen : (fs ++ [v]).length = fs.length + 1 := by simp
  have hrow := h.nrow
  rw [hlen] at hrow
  obtain ⟨KF, hKF⟩ : ∃ K, fs.length = K := ⟨_, rfl⟩
  rw [hKF] at hrow hlen
  obtain ⟨g, off, cc, rfl, hcc, hcm, hBg⟩ := hrow.form1 (Nat.succ_pos _)
  have c3 : w.cell? ⟨lb, 3, none⟩ = some (.slice (some ⟨g, off, none⟩) (KF + 1) cc) := h.blk.cell (i := 3) rfl
  have f3 := h.blk.frozen 3
  have hlt := h.blk.lt
  have k1 : w.cell? ⟨g, off + KF, none⟩ = some v := hrow.cell (j := KF) (by rw [← hKF]; simp)
  have fg := hrow.frozen (off + KF)
  have hlg := (hrow.lt (g := g) rfl).2.1
  have hgl : g ≠ lb := Row.ne hrow h.blk (by decide) rfl
  have hfl : KF ≤ 1048576 := by have := h.fc; have := h.cp; have := h.most2; omega
  obtain ⟨k, cap, rfl⟩ := h.fn v (by simp)
  have hr2 := (hrow.set KF .nilFunc).head KF (Nat.le_succ _)
  have e2 : ((fs ++ [Value.func (.func k) #[] cap]).set KF .nilFunc).take KF = fs := by
    rw [← hKF, List.set_append_right _ _ (Nat.le_refl _)]
    exact List.take_left' rfl
  rw [e2] at hr2
  have hb2 : Blk (w.setCell ⟨g, off + KF, none⟩ .nilFunc) lb _ _ := h.blk.other (a := ⟨g, off + KF, none⟩) (Ne.symm hgl) .nilFunc
  have hb3 := hb2.set 3 (.slice (some ⟨g, off, none⟩) KF cc)
  rw [set3L] at hb3
  have hS : Stp (fun b => b = lb ∨ b = g) w ((w.setCell ⟨g, off + KF, none⟩ .nilFunc).setCell ⟨lb, 3, none⟩ (.slice (some ⟨g, off, none⟩) KF cc)) :=
    ((Stp.set (S := fun b => b = lb ∨ b = g) (.inr rfl) _ _).trans (Stp.set (S := fun b => b = lb) rfl 3 _) (fun _ _ h => .inl h))
  have hr3 : Row ((w.setCell ⟨g, off + KF, none⟩ .nilFunc).setCell ⟨lb, 3, none⟩ (.slice (some ⟨g, off, none⟩) KF cc)) B 1 (.slice (some ⟨g, off, none⟩) KF cc) KF fs := hr2.keep fun g' hg => by cases hg; exact heap_setCell_other _ _ g _ hgl
  have hfr : Fr B LogT (fun _ => False) w _ := Fr.of_stp (B := B) (T := LogT) (M := fun _ => False) hS (by
    intro b _ hb
    rcases hb with rfl | rfl
    · exact ⟨hL1.hB, .inr ⟨_, _, _, hL1.blk, .inl rfl⟩⟩
    · obtain ⟨h1, _, cur, h2⟩ := hrow.lt (g := b) rfl
      exact ⟨h1, .inr ⟨_, _, _, h2, .inr (.inr (.inl rfl))⟩⟩)
  have hmr : Row _ B 112 _ _ _ := hL1.mrow.stp hS (fun g' hg hb => by
    rcases hb with hb | hb
    · exact Row.ne hL1.mrow hL1.blk (by decide) hg hb
    · exact Row.ne2 hL1.mrow hrow (by decide) hg rfl hb)
  have hmk : ∀ m ∈ ms, B ≤ m.blk ∧ Blk _ m.blk (mkC m false) 114 := fun m hm => ⟨(hL1.mks m hm).1, (hL1.mks m hm).2.stp hS (fun hb => by
    rcases hb with hb | hb
    · exact (hL1.mks m hm).2.ne hL1.blk (by decide) hb
    · exact Row.ne hrow (hL1.mks m hm).2 (by decide) rfl hb.symm)⟩
  have hfc := hL1.fc
  have hlog : LogAt ((w.setCell ⟨g, off + KF, none⟩ .nilFunc).setCell ⟨lb, 3, none⟩ (.slice (some ⟨g, off, none⟩) KF cc)) B lb most nest ms fs c :=
    ⟨_, _, hL1.hB, hb3, hmr, (by rw [hKF]; exact hr3), hmk, hL1.ap, hL1.nest1, hL1.nest2, hL1.most2, hL1.cp, hL1.mp, (by omega), (fun v hv => hL1.fn v (List.mem_append_left _ hv)), hL1.mc⟩
  have l2 := hb2.lt
  have d3 : (w.setCell ⟨g, off + KF, none⟩ .nilFunc).cell? ⟨lb, 3, none⟩ = some (.slice (some ⟨g, off, none⟩) (KF + 1) cc) := hb2.cell (i := 3) rfl
  have g3 := hb2.frozen 3
  unfold maxLen at hcm
  replace hlog := Lib.hid hlog
  replace hfr := Lib.hid hfr
  unfold ptrV
  clear hmk hmr hr3 hS hb3 hb2 hr2 e2 hL1 h hrow hlen hKF hfc
  go_enter Tryz.func81, Tryz.ntmps81
  go_wp2
  go_ret
  exact ⟨rfl, hlog.out, hfr.out⟩

theorem zeroMk (w : World) : (zeroValue 112).run Tryz.prog w = .ok (.pointer none) w := by kernel_rfl
set_option maxRecDepth 100000 in
set_option maxHeartbeats 1000000 in
theorem close_any {m : Mk} (h : LogAt w B lb most nest (ms ++ [m]) fs c) (hfm : fs.length ≤ m.count) :
    Calls Tryz.prog 82 #[ptrV lb, .int .i64 (ms.length : Int)] w fun e w' => e = .returned (.tuple #[]) ∧ LogAt w' B lb most nest ms fs m.count ∧ Fr B LogT (fun _ => False) w w' := by
  obtain ⟨mv, nv, h⟩ := h
  have hL1 := h
  have hlen : (ms ++ [m]).length = ms.length + 1 := by simp
  have hrow := h.mrow
  rw [hlen] at hrow
  obtain ⟨K, hK⟩ : ∃ K, ms.length = K := ⟨_, rfl⟩
  rw [hK] at hrow hlen ⊢
  obtain ⟨g, off, cc, rfl, hcc, hcm, hBg⟩ := hrow.form1 (Nat.succ_pos _)
  have hmm := h.mks m (by simp)
  obtain ⟨hBm, hmb⟩ := hmm
  obtain ⟨mb, mn, mc⟩ := m
  simp only at hmb hBm hfm ⊢
  have c2 : w.cell? ⟨lb, 2, none⟩ = some (.slice (some ⟨g, off, none⟩) (K + 1) cc) := h.blk.cell (i := 2) rfl
  have hlt := h.blk.lt
  have hlm := hmb.lt
  have k1 : w.cell? ⟨g, off + K, none⟩ = some (.pointer (some ⟨mb, 0, none⟩)) := hrow.cell (j := K) (by rw [← hK]; simp [ptrV])
  have hlg := (hrow.lt (g := g) rfl).2.1
  have hgl : g ≠ lb := Row.ne hrow h.blk (by decide) rfl
  have hgm : g ≠ mb := Row.ne hrow hmb (by decide) rfl
  have hml : mb ≠ lb := hmb.ne h.blk (by decide)
  have hkl : K ≤ 1024 := by have := h.mp; have := h.nest2; omega
  have m2 : w.frozen? ⟨mb, 2, none⟩ = false := hmb.frozen 2
  have x2 : w.cell? ⟨mb, 2, none⟩ = some (.bool false) := hmb.cell (i := 2) rfl
  have x1 : w.cell? ⟨mb, 1, none⟩ = some (.int .i64 (mc : Int)) := hmb.cell (i := 1) rfl
  -- the mark is gone
  have hb1 : Blk (w.setCell ⟨mb, 2, none⟩ (.bool true)) lb _ _ := h.blk.other (a := ⟨mb, 2, none⟩) (Ne.symm hml) _
  have hr1 : Row (w.setCell ⟨mb, 2, none⟩ (.bool true)) B 112 (.slice (some ⟨g, off, none⟩) (K + 1) cc) (K + 1) ((ms ++ [(⟨mb, mn, mc⟩ : Mk)]).map fun m => ptrV m.blk) := hrow.keep fun g' hg => by cases hg; exact heap_setCell_other w ⟨mb, 2, none⟩ g (.bool true) hgm
  have y1 : (w.setCell ⟨mb, 2, none⟩ (.bool true)).cell? ⟨mb, 1, none⟩ = some (.int .i64 (mc : Int)) := (hmb.set 2 (.bool true)).cell (i := 1) rfl
  obtain ⟨w1, hw1⟩ : ∃ w1, w.setCell ⟨mb, 2, none⟩ (.bool true) = w1 := ⟨_, rfl⟩
  have hS1 : Stp (fun b => b = lb ∨ b = g ∨ b = mb) w w1 := by rw [← hw1]; exact Stp.set (S := fun b => b = lb ∨ b = g ∨ b = mb) (.inr (.inr rfl)) _ _
  rw [hw1] at hb1 hr1 y1
  have d4 : w1.cell? ⟨lb, 4, none⟩ = some _ := hb1.cell (i := 4) rfl
  have g4 := hb1.frozen 4
  have l1 := hb1.lt
  have hb2 := hb1.set 4 (.int .i64 (mc : Int))
  rw [set4L] at hb2
  have hr2 : Row (w1.setCell ⟨lb, 4, none⟩ (.int .i64 (mc : Int))) B 112 (.slice (some ⟨g, off, none⟩) (K + 1) cc) (K + 1) ((ms ++ [(⟨mb, mn, mc⟩ : Mk)]).map fun m => ptrV m.blk) := hr1.keep fun g' hg => by cases hg; exact heap_setCell_other w1 _ g _ hgl
  obtain ⟨w2, hw2⟩ : ∃ w2, w1.setCell ⟨lb, 4, none⟩ (.int .i64 (mc : Int)) = w2 := ⟨_, rfl⟩
  have hS2 : Stp (fun b => b = lb ∨ b = g ∨ b = mb) w w2 := hS1.trans (by rw [← hw2]; exact Stp.set (S := fun b => b = lb) rfl _ _) (fun _ _ h => .inl h)
  rw [hw2] at hb2 hr2
  have d2 : w2.cell? ⟨lb, 2, none⟩ = some (.slice (some ⟨g, off, none⟩) (K + 1) cc) := hb2.cell (i := 2) rfl
  have l2 := hb2.lt
  have hcl : ∀ ty, (Builtin.clear_ #[98] ty #[.slice (some ⟨g, off + K, none⟩) 1 (cc - K)]).run Tryz.prog w2 = .ok (.tuple #[]) (w2.setCell ⟨g, off + K, none⟩ (.pointer none)) := fun ty =>
    Lib.run_clear_slice w2 98 112 ty (.pointer none) Tryz.underlying98 zeroMk rfl rfl g (off + K) 1 (cc - K) (by decide)
      (fun j hj => by obtain rfl : j = 0 := by omega
                      rw [Nat.add_zero, hr2.cell (j := K) (u := ptrV mb) (by rw [← hK]; simp)]; rfl) (fun j _ => hr2.frozen _)
  have hr3 := (hr2.set K (.pointer none)).head K (Nat.le_succ _)
  have hb3 : Blk (w2.setCell ⟨g, off + K, none⟩ (.pointer none)) lb _ _ := hb2.other (a := ⟨g, off + K, none⟩) (Ne.symm hgl) (.pointer none)
  have e3 : (((ms ++ [(⟨mb, mn, mc⟩ : Mk)]).map fun m => ptrV m.blk).set K (.pointer none)).take K = ms.map fun m => ptrV m.blk := by
    rw [List.map_append, List.set_append_right _ _ (by simp [hK])]
    exact List.take_left' (by simp [hK])
  rw [e3] at hr3
  obtain ⟨w3, hw3⟩ : ∃ w3, w2.setCell ⟨g, off + K, none⟩ (.pointer none) = w3 := ⟨_, rfl⟩
  have hS3 : Stp (fun b => b = lb ∨ b = g ∨ b = mb) w w3 := hS2.trans (by rw [← hw3]; exact Stp.set (S := fun b => b = g) rfl _ _) (fun _ _ h => .inr (.inl h))
  rw [hw3] at hcl hr3 hb3
  have z2 : w3.cell? ⟨lb, 2, none⟩ = some (.slice (some ⟨g, off, none⟩) (K + 1) cc) := hb3.cell (i := 2) rfl
  have zf := hb3.frozen 2
  have l3 := hb3.lt
  have hb4 := hb3.set 2 (.slice (some ⟨g, off, none⟩) K cc)
  rw [set2L] at hb4
  have hS4 : Stp (fun b => b = lb ∨ b = g ∨ b = mb) w (w3.setCell ⟨lb, 2, none⟩ (.slice (some ⟨g, off, none⟩) K cc)) := hS3.trans (Stp.set (S := fun b => b = lb) rfl _ _) (fun _ _ h => .inl h)
  have hr4 : Row (w3.setCell ⟨lb, 2, none⟩ (.slice (some ⟨g, off, none⟩) K cc)) B 112 (.slice (some ⟨g, off, none⟩) K cc) K (ms.map fun m => ptrV m.blk) := hr3.keep fun g' hg => by cases hg; exact heap_setCell_other w3 _ g _ hgl
  have hfr : Fr B LogT (fun _ => False) w _ := Fr.of_stp (B := B) (T := LogT) (M := fun _ => False) hS4 (by
    intro b _ hb
    rcases hb with rfl | rfl | rfl
    · exact ⟨hL1.hB, .inr ⟨_, _, _, hL1.blk, .inl rfl⟩⟩
    · obtain ⟨h1, _, cur, h2⟩ := hrow.lt (g := b) rfl
      exact ⟨h1, .inr ⟨_, _, _, h2, .inr (.inl rfl)⟩⟩
    · exact ⟨hBm, .inr ⟨_, _, _, hmb, .inr (.inr (.inr rfl))⟩⟩)
  have hnr : Row _ B 1 _ _ _ := hL1.nrow.stp hS4 (fun g' hg hb => by
    rcases hb with hb | hb | hb
    · exact Row.ne hL1.nrow hL1.blk (by decide) hg hb
    · exact Row.ne2 hL1.nrow hrow (by decide) hg rfl hb
    · exact Row.ne hL1.nrow hmb (by decide) hg hb)
  have hap := hL1.ap
  rw [List.map_append, List.nodup_append] at hap
  have hmk : ∀ m ∈ ms, B ≤ m.blk ∧ Blk _ m.blk (mkC m false) 114 := fun m hm => ⟨(hL1.mks m (List.mem_append_left _ hm)).1, (hL1.mks m (List.mem_append_left _ hm)).2.stp hS4 (fun hb => by
    rcases hb with hb | hb | hb
    · exact (hL1.mks m (List.mem_append_left _ hm)).2.ne hL1.blk (by decide) hb
    · exact Row.ne hrow (hL1.mks m (List.mem_append_left _ hm)).2 (by decide) rfl hb.symm
    · exact hap.2.2 m.blk (List.mem_map.2 ⟨m, hm, rfl⟩) mb (by simp) hb)⟩
  have hmp := hL1.mp
  have hmc := hL1.mc ⟨mb, mn, mc⟩ (by simp)
  have hlog : LogAt (w3.setCell ⟨lb, 2, none⟩ (.slice (some ⟨g, off, none⟩) K cc)) B lb most nest ms fs mc :=
    ⟨_, _, hL1.hB, hb4, (by rw [hK]; exact hr4), hnr, hmk, hap.1, hL1.nest1, hL1.nest2, hL1.most2, hmc.2, (by rw [hlen] at hmp; omega), hfm, hL1.fn, (fun m hm => hL1.mc m (List.mem_append_left _ hm))⟩
  unfold maxLen at hcm
  have hck : ¬ cc = K := by omega
  replace hlog := Lib.hid hlog
  replace hfr := Lib.hid hfr
  unfold ptrV
  replace hw1 := Lib.hid hw1
  replace hw2 := Lib.hid hw2
  replace hw3 := Lib.hid hw3
  replace hcl := Lib.hid hcl
  clear hmc hmp hmk hap hnr hr4 hS4 hb4 hS3 hr3 hb3 e3 hS2 hb2 hr2 hS1 hb1 hr1 hL1 h hrow hlen hK hmb hBm hfm
  go_enter Tryz.func82, Tryz.ntmps82
  go_upto_region 2 with fail
  rw [hw1.out]
  clear c2 k1 m2 x2 x1
  go_upto_region 3 with fail
  rw [hw2.out]
  clear d4 g4 y1
  go_upto_region 4 with (simp only [hcl.out])
  go_wp2
  go_end0
  exact ⟨rfl, hlog.out, hfr.out⟩
end
/-- Behind a return recover finds nothing. -/
theorem do1_idle (w : World) :
    CallsD Tryz.prog 120 #[] .returning w fun e u' w' => e = .returned (.tuple #[]) ∧ u' = .returning ∧ w' = w := by
  refine callsD_of_wpS Tryz.func120 rfl fun c₀ cs hu => ?_
  apply wpS_region
  simp [wpOpsS, go_sem, recoverD, hu, Tryz.ntmps120]
  cases c₀
  simp_all [bodyPostS, results, Tryz.results120]
set_option maxRecDepth 100000 in
theorem do_any (k : Nat) (cap : Array Value) (R : World → Prop) (w : World) (hen : Enters Tryz.prog k) (hc : Calls Tryz.prog k cap w fun e w' => e = .returned (.tuple #[]) ∧ R w') :
    Calls Tryz.prog 80 #[.func (.func k) #[] cap] w fun e w' => e = .returned (.tuple #[]) ∧ R w' := by
  have hen2 := hen cap w
  replace hc := Lib.hid hc
  clear hen
  go_enter_defers Tryz.func80, Tryz.ntmps80
  go_wp2_with fail
  refine hc.out.mono ?_
  rintro e w' ⟨rfl, hR⟩
  clear hen2
  go_wp2
  refine leaves_cons (f := 120) (args := #[]) (by simp) (by simp [go_sem]) ?_
  refine (do1_idle w').mono ?_
  rintro e u' w2 ⟨rfl, rfl, rfl⟩
  simp [Leaves, settle, results, Tryz.results80, go_sem]
  exact hR
end Go.Proofs.YtigmdfdcflkggaaGreat
/-
  Undo: where there is no log, without a mark, and of whatever notes: all behind the mark are done from the last one on. Conditions: each note comes back and leaves the log alone.
-/
namespace Go.Proofs.YtigmdfdcflkggaaGreat
open Go Go.RowKit Go.ChangeMaps

section
variable {w w' : World} {B lb most nest c : Nat} {mv nv : Value} {ms : List Mk} {fs : List Value}
set_option maxRecDepth 100000 in
theorem Undo_none (h : LogAt w B lb most nest [] fs c) :
    Calls Tryz.prog 22 #[ptrV lb] w fun e w' => e = .returned (.int .i64 1) ∧ w' = w := by
  obtain ⟨mv, nv, h⟩ := h
  have hi := isNil_no h
  obtain ⟨A, cc, rfl, hc, hcm⟩ := h.mrow.form
  have c2 : w.cell? ⟨lb, 2, none⟩ = some (.slice A 0 cc) := h.blk.cell (i := 2) rfl
  have hlt := h.blk.lt
  unfold ptrV at hi ⊢
  clear h hc
  go_enter Tryz.func22, Tryz.ntmps22
  go_wp2_with fail
  refine hi.mono ?_
  rintro e w' ⟨rfl, hw⟩
  obtain rfl := hw.symm
  go_wp2
  go_ret
  exact ⟨rfl, rfl⟩

/-- How many notes a log has, read off its block. -/
def lenN (lb : Nat) (w : World) : Nat := match w.cell? ⟨lb, 3, none⟩ with | some (.slice _ n _) => n | _ => 0
theorem LogR.lenN (h : LogR w B lb most nest mv ms nv fs c) : lenN lb w = fs.length := by
  obtain ⟨A, cc, rfl, hc, hcm⟩ := h.nrow.form
  have c3 : w.cell? ⟨lb, 3, none⟩ = some (.slice A fs.length cc) := h.blk.cell (i := 3) rfl
  unfold Proofs.YtigmdfdcflkggaaGreat.lenN
  rw [c3]
theorem LogAt.lenN (h : LogAt w B lb most nest ms fs c) : Proofs.YtigmdfdcflkggaaGreat.lenN lb w = fs.length := by obtain ⟨mv, nv, h⟩ := h; exact h.lenN
theorem take_snocV (fs : List Value) (i : Nat) (h : i < fs.length) : fs.take (i + 1) = fs.take i ++ [fs[i]] := List.take_succ_eq_append_getElem h

set_option maxRecDepth 100000 in
set_option maxHeartbeats 2000000 in
theorem Undo_any {m : Mk} (h : LogAt w B lb most nest (ms ++ [m]) fs c) (hmn : m.notes ≤ fs.length) (I : Nat → World → Prop) (h0 : I fs.length w)
    (keep : ∀ j W W', I j W → Fr B LogT (fun _ => False) W W' → I j W')
    (call : ∀ j W (hj : j < fs.length), m.notes ≤ j → I (j + 1) W → ∃ k cap, fs[j] = .func (.func k) #[] cap ∧ Enters Tryz.prog k ∧ Calls Tryz.prog k cap W fun e W' => e = .returned (.tuple #[]) ∧ I j W' ∧ KeepL W W') :
    Calls Tryz.prog 22 #[ptrV lb] w fun e w' => e = .returned (.int .i64 0) ∧ LogAt w' B lb most nest ms (fs.take m.notes) m.count ∧ I m.notes w' := by
  obtain ⟨mv, nv, h1⟩ := h
  have hi := isNil_no h1
  have hlen : (ms ++ [m]).length = ms.length + 1 := by simp
  have hrow := h1.mrow
  rw [hlen] at hrow
  obtain ⟨K, hK⟩ : ∃ K, ms.length = K := ⟨_, rfl⟩
  rw [hK] at hrow hlen
  obtain ⟨g, off, cc, rfl, hcc, hcm, hBg⟩ := hrow.form1 (Nat.succ_pos _)
  obtain ⟨mb, mn, mc⟩ := m
  simp only at hmn call ⊢
  have c2 : w.cell? ⟨lb, 2, none⟩ = some (.slice (some ⟨g, off, none⟩) (K + 1) cc) := h1.blk.cell (i := 2) (by rw [← hlen]; rfl)
  have hlt := h1.blk.lt
  have k1 : w.cell? ⟨g, off + K, none⟩ = some (.pointer (some ⟨mb, 0, none⟩)) := hrow.cell (j := K) (by rw [← hK]; simp [ptrV])
  have hkl : K ≤ 1024 := by have := h1.mp; have := h1.nest2; omega
  have hmc : mn ≤ mc := (h1.mc ⟨mb, mn, mc⟩ (by simp)).1
  have hne0 : ((K : Int) + 1 == 0) = false := by rw [beq_eq_false_iff_ne]; omega
  have hL0 : LogAt w B lb most nest (ms ++ [⟨mb, mn, mc⟩]) (fs.take fs.length) c := by rw [List.take_length]; exact ⟨_, _, h1⟩
  have hfl : fs.length ≤ 1048576 := by have := h1.fc; have := h1.cp; have := h1.most2; omega
  replace hL0 := Lib.hid hL0
  replace h0 := Lib.hid h0
  replace keep := Lib.hid keep
  replace call := Lib.hid call
  replace hK := Lib.hid hK
  unfold maxLen at hcm
  unfold ptrV at hi ⊢
  obtain ⟨FT, hFT⟩ : ∃ F, fs.take mn = F := ⟨_, rfl⟩
  rw [hFT]
  replace hFT := Lib.hid hFT
  clear h1 hlen hrow
  go_enter Tryz.func22, Tryz.ntmps22
  go_wp2_with fail
  refine hi.mono ?_
  rintro e w' ⟨rfl, hw⟩
  obtain rfl := hw.symm
  clear hi
  go_wp2_with fail
  clear c2 k1
  go_loopw [28] (fun _ wr => ∃ j, mn ≤ j ∧ j ≤ fs.length ∧ LogAt wr B lb most nest (ms ++ [⟨mb, mn, mc⟩]) (fs.take j) c ∧ I j wr) (fun _ wr => lenN lb wr)
  case atStart => exact ⟨fs.length, hmn, Nat.le_refl _, hL0.out, h0.out⟩
  case round =>
    obtain ⟨j, hj1, hj2, hL, hI⟩ := hrel
    have hLn := hL.lenN
    have hLd : ∀ n, LogAt (wr.drewN n) B lb most nest (ms ++ [⟨mb, mn, mc⟩]) (fs.take j) c := fun n => hL.keep (KeepL.drewN wr n)
    obtain ⟨mv', nv', hR⟩ := hL
    have hjl : (fs.take j).length = j := by rw [List.length_take]; omega
    have hnr := hR.nrow
    rw [hjl] at hLn
    rw [hjl] at hnr
    obtain ⟨A2, cc2, rfl, hc2, hcm2⟩ := hnr.form
    have c3 : wr.cell? ⟨lb, 3, none⟩ = some (.slice A2 j cc2) := hR.blk.cell (i := 3) rfl
    have hmb := (hR.mks ⟨mb, mn, mc⟩ (by simp)).2
    have x0 : wr.cell? ⟨mb, 0, none⟩ = some (.int .i64 (mn : Int)) := hmb.cell (i := 0) rfl
    have x2 : wr.cell? ⟨mb, 2, none⟩ = some (.bool false) := hmb.cell (i := 2) rfl
    have hlm := hmb.lt
    have hll := hR.blk.lt
    have hfn := hR.fn
    have hBw : B ≤ wr.heap.size := by have := hR.hB; omega
    unfold maxLen at hcm2
    replace hLd := Lib.hid hLd
    replace hI := Lib.hid hI
    replace hLn := Lib.hid hLn
    replace hjl := Lib.hid hjl
    replace hfn := Lib.hid hfn
    clear hR hnr hmb
    by_cases hlt2 : mn < j
    · obtain ⟨i, rfl⟩ : ∃ i, j = i + 1 := ⟨j - 1, by omega⟩
      have hif : i < fs.length := by omega
      have hd : decide (mn < i + 1) = true := by simpa using hlt2
      obtain ⟨k, cap, hfi⟩ := hfn.out fs[i] (by rw [take_snocV fs i hif]; exact List.mem_append_right _ (List.mem_singleton.2 rfl))
      have hts := take_snocV fs i hif
      rw [hfi] at hts
      have htk : ∀ n, LogAt (wr.drewN n) B lb most nest (ms ++ [⟨mb, mn, mc⟩]) (fs.take i ++ [.func (.func k) #[] cap]) c := fun n => by rw [← hts]; exact hLd.out n
      have hcl : ∀ W, I (i + 1) W → Enters Tryz.prog k ∧ Calls Tryz.prog k cap W fun e W' => e = .returned (.tuple #[]) ∧ I i W' ∧ KeepL W W' := fun W hW => by
        obtain ⟨k', cap', h1, h2, h3⟩ := call.out i W hif (by omega) hW
        rw [hfi] at h1
        obtain ⟨e1, _, e2⟩ := Value.func.inj h1
        obtain rfl := Fn.func.inj e1
        subst e2
        exact ⟨h2, h3⟩
      replace hfi := Lib.hid hfi
      replace hts := Lib.hid hts
      replace htk := Lib.hid htk
      replace hcl := Lib.hid hcl
      go_wp2_with fail
      go_quiet (fail)
      go_wp2_with fail
      refine (takeLast_any (htk.out nq)).mono ?_
      rintro e w1 ⟨rfl, hL1, hF1⟩
      have hI1 := keep.out (i + 1) wr w1 hI.out ((Fr.drewN _ _ _ _ _).trans hF1)
      obtain ⟨hen, hcall⟩ := hcl.out w1 hI1
      have hdo := do_any k cap (fun W' => I i W' ∧ KeepL w1 W') w1 hen hcall
      replace hL1 := Lib.hid hL1
      replace hdo := Lib.hid hdo
      clear hen hcall hI1 hF1 x0 x2 c3
      go_wp2_with fail
      refine hdo.out.mono ?_
      rintro e w2 ⟨rfl, hI2, hK2⟩
      have hL2 := hL1.out.keep hK2
      have hm : lenN lb w2 < lenN lb wr := by
        rw [hL2.lenN, hLn.out, List.length_take]
        omega
      replace hL2 := Lib.hid hL2
      replace hI2 := Lib.hid hI2
      clear hdo hK2
      go_wp2
      go_roundw
      case rel => exact ⟨i, by omega, by omega, hL2.out, hI2.out⟩
      case measure => exact hm
    · obtain rfl : mn = j := by omega
      have hd : decide (mn < mn) = false := by simp
      have hcl : ∀ n, LogAt (wr.drewN n) B lb most nest (ms ++ [⟨mb, mn, mc⟩]) FT c := fun n => by rw [← hFT.out]; exact hLd.out n
      have hcc2 := fun n => close_any (hcl n) (by rw [← hFT.out, hjl.out]; exact hmc)
      rw [hK.out] at hcc2
      have hI2 : ∀ n, I mn (wr.drewN n) := fun n => keep.out mn wr _ hI.out (Fr.drewN _ _ _ _ _)
      unfold ptrV at hcc2
      replace hcc2 := Lib.hid hcc2
      replace hI2 := Lib.hid hI2
      clear hcl
      go_wp2_with fail
      go_quiet (fail)
      go_wp2_with fail
      refine (hcc2.out nq).mono ?_
      rintro e w1 ⟨rfl, hL1, hF1⟩
      have hI1 := keep.out mn _ w1 (hI2.out nq) hF1
      replace hL1 := Lib.hid hL1
      replace hI1 := Lib.hid hI1
      clear hF1 x0 x2 c3
      go_wp2
      go_ret
      exact ⟨rfl, hL1.out, hI1.out⟩
end
end Go.Proofs.YtigmdfdcflkggaaGreat
/-
  A map of a log in memory: what is put under a key, at the operation; NewMap, NewCell, Get, Cell's Get. Conditions: none.
-/
namespace Go.Proofs.YtigmdfdcflkggaaGreat
open Go Go.RowKit Go.ChangeMaps Go.MapKept

section
variable {κ : Type} [DecidableEq κ]
/-- k has v. -/
def putK {α : Type} (l : List (κ × α)) (k : κ) (v : α) : List (κ × α) := if (look l k).isSome then l.map (fun p => if p.1 = k then (k, v) else p) else l ++ [(k, v)]
theorem look_putK {α : Type} (l : List (κ × α)) (k : κ) (v : α) (j : κ) : look (putK l k v) j = if j = k then some v else look l j := by
  unfold putK
  split
  · rename_i h
    have aux : ∀ l : List (κ × α), look (l.map (fun p => if p.1 = k then (k, v) else p)) j = if j = k then (look l k).map (fun _ => v) else look l j := by
      intro l
      induction l with
      | nil => simp [look]
      | cons a l ih =>
        simp only [List.map_cons, look]
        by_cases ha : a.1 = k
        · simp only [ha, if_true]
          by_cases hj : j = k
          · subst hj; simp
          · rw [if_neg (Ne.symm hj), ih, if_neg hj, if_neg (Ne.symm hj), if_neg hj]
        · simp only [ha, if_false]
          by_cases hj : j = k
          · subst hj; rw [if_neg ha, if_pos rfl, ih, if_pos rfl]
          · rw [if_neg hj, ih, if_neg hj]
    rw [aux]
    by_cases hj : j = k
    · rw [if_pos hj, if_pos hj]
      cases hl : look l k with
      | none => rw [hl] at h; cases h
      | some x => rfl
    · rw [if_neg hj, if_neg hj]
  · rename_i h
    rw [look_app]
    simp only [look]
    by_cases hj : j = k
    · subst hj
      cases hl : look l j with
      | none => simp
      | some x => rw [hl] at h; exact absurd rfl h
    · rw [if_neg (Ne.symm hj), if_neg hj]
      cases look l j <;> rfl
theorem putK_map {α β : Type} (f : α → β) (l : List (κ × α)) (k : κ) (v : α) : putK (l.map fun p => (p.1, f p.2)) k (f v) = (putK l k v).map fun p => (p.1, f p.2) := by
  unfold putK
  rw [look_map]
  cases hl : look l k with
  | none => simp
  | some x =>
    simp only [Option.map_some, Option.isSome_some, if_true, List.map_map]
    refine List.map_congr_left fun p _ => ?_
    simp only [Function.comp]
    split <;> rfl
def dropK {α : Type} (l : List (κ × α)) (k : κ) : List (κ × α) := l.filter fun p => p.1 ≠ k
theorem look_dropK {α : Type} (l : List (κ × α)) (k j : κ) : look (dropK l k) j = if j = k then none else look l j := by
  unfold dropK
  induction l with
  | nil => simp [look]
  | cons a l ih =>
    by_cases ha : a.1 = k
    · rw [List.filter_cons_of_neg (by simpa using ha), ih]
      simp only [look]
      by_cases hj : j = k
      · rw [if_pos hj, if_pos hj]
      · rw [if_neg hj, if_neg hj, if_neg (fun e => hj (e.symm.trans ha))]
    · rw [List.filter_cons_of_pos (by simpa using ha)]
      simp only [look]
      by_cases hj : j = k
      · subst hj; rw [if_neg ha, ih, if_pos rfl, if_pos rfl]
      · rw [ih, if_neg hj, if_neg hj]
theorem dropK_map {α β : Type} (f : α → β) (l : List (κ × α)) (k : κ) : (l.map fun p => (p.1, f p.2)).filter (fun p => p.1 ≠ k) = (dropK l k).map fun p => (p.1, f p.2) := by
  unfold dropK
  rw [List.filter_map]
  rfl
variable {w : World} {b : Nat} {d : TypeDesc} {enc : κ → Value} {l : List (κ × Value)} {P : Program} {t kt e : TypeId}
theorem KMap.put (h : KMap w b d enc l) (K : KeyEnc d enc) (ht : P.underlying t = some (.map kt e)) (hd : P.underlying kt = some d) (k : κ) (v : Value) :
    ∃ o, (Instr.mapUpdate t (.map (some b)) (enc k) v).run P w = .ok () (setBlock w b o) ∧ KMap (setBlock w b o) b d enc (putK l k v) := by
  cases hk : look l k with
  | none =>
    obtain ⟨o, h1, h2⟩ := h.push K ht hd hk v
    exact ⟨o, h1, by unfold putK; rw [hk]; exact h2⟩
  | some u =>
    have hap := h.apart
    obtain ⟨es, clock, hb, hs, he⟩ := h
    rcases kmap_find K hs he k with ⟨h0, h1, h2⟩ | ⟨j, x, h0, h1, h2, h3⟩
    · rw [hk] at h0; cases h0
    have hj : es[j]? = some x := by simpa using h2
    refine ⟨.map (es.modify j fun e => { e with key := enc k, val := v }) clock, ?_, es.modify j fun e => { e with key := enc k, val := v }, clock, heap_setBlock_same hb _, ?_, ?_⟩
    · simp [Instr.mapUpdate, run_underlying ht, MapKept.run_getObj_map hb, MapKept.run_checkKey hd (K.is k), MapKept.run_findKey hd h1, hj, h3, MapKept.run_keyThatStays (K.is k), MapKept.run_setObj_map _ hb, Result.andThen, setBlock]
    · exact stamped_modify hs _ _ (fun _ _ => rfl) (fun e' _ he' => by rw [hj] at he'; cases he'; exact h3.symm)
    · have hjl : es.toList[j]? = some x := h2
      have hlj : (l.map fun p => (enc p.1, p.2))[j]? = some (enc k, x.val) := by rw [← he, List.getElem?_map, hjl]; simp [h3]
      rw [List.getElem?_map] at hlj
      cases hlj2 : l[j]? with
      | none => rw [hlj2] at hlj; cases hlj
      | some p =>
        rw [hlj2] at hlj
        obtain ⟨p1, p2⟩ := p
        simp only [Option.map_some, Option.some.injEq, Prod.mk.injEq] at hlj
        obtain ⟨e1, e2⟩ := hlj
        obtain rfl := K.inj _ _ e1
        unfold putK
        rw [hk]
        simp only [Option.isSome_some, if_true, List.map_map]
        apply List.ext_getElem?
        intro i
        have hei : (es.toList.map fun x => (x.key, x.val))[i]? = (l.map fun p => (enc p.1, p.2))[i]? := by rw [he]
        rw [List.getElem?_map, List.getElem?_map] at hei
        rw [Array.toList_modify, List.getElem?_map, List.getElem?_modify, List.getElem?_map]
        by_cases hij : j = i
        · subst hij
          rw [hjl, hlj2]
          simp
        · simp only [if_neg hij]
          cases hi : l[i]? with
          | none =>
            rw [hi] at hei
            cases hie : es.toList[i]? with
            | none => rfl
            | some y => rw [hie] at hei; cases hei
          | some q =>
            rw [hi] at hei
            cases hie : es.toList[i]? with
            | none => rw [hie] at hei; cases hei
            | some y =>
              rw [hie] at hei
              simp only [Option.map_some, Option.some.injEq] at hei ⊢
              have hei2 : Option.map (fun x : MapEntry => (x.key, x.val)) ((fun a => a) <$> some y) = some (y.key, y.val) := rfl
              rw [hei2, hei]
              have hq : q.1 ≠ p1 := fun e => by
                have hil := (List.getElem?_eq_some_iff.1 hi)
                have hjl2 := (List.getElem?_eq_some_iff.1 hlj2)
                obtain ⟨ha, hb1⟩ := hil
                obtain ⟨hc, hd1⟩ := hjl2
                rcases Nat.lt_or_gt_of_ne hij with hlt | hlt
                · have := List.pairwise_iff_getElem.1 hap j i hc ha hlt
                  rw [hb1, hd1] at this
                  exact this e.symm
                · have := List.pairwise_iff_getElem.1 hap i j ha hc hlt
                  rw [hb1, hd1] at this
                  exact this e
              simp [Function.comp, hq]
variable {ops : Array Oper} {rest : List Oper} {o : Oper} {a : Act} {Q : Exit → Act → World → Prop}
theorem wpList_set_k (hg : o.guard = none) (m x v : Operand) (t : TypeId) (hop : o.op = Op.mapUpdate t m x v)
    (kt e : TypeId) (K : KeyEnc d enc) (ht : P.underlying t = some (.map kt e)) (hd : P.underlying kt = some d)
    (hm : a.eval m = .map (some b)) (h : KMap w b d enc l) (k : κ) (hx : a.eval x = enc k) (val : Value) (hv : a.eval v = val)
    (hK : ∀ ob, KMap (setBlock w b ob) b d enc (putK l k val) → wpList P ops Q rest (a.put o.dst undef) (setBlock w b ob)) :
    wpList P ops Q (o :: rest) a w := by
  obtain ⟨ob, hrun, hk'⟩ := h.put K ht hd k val
  refine wpList_plain hg fun next hnext => ?_
  unfold Oper.wp execOp
  simp only [hop, Sem.run_bind, Sem.run_pure, Result.andThen_ok, hm, hx, hv, hrun]
  exact hnext _ _ (hK ob hk')
end
end Go.Proofs.YtigmdfdcflkggaaGreat
/-
  Maps and cells of a log in memory, whatever their values; the cells that notes have caught. Conditions: none.
-/
namespace Go.Proofs.YtigmdfdcflkggaaGreat
open Go Go.RowKit Go.ChangeMaps

abbrev Es (α : Type) := List (ByteArray × α)
def encE {α : Type} (enc : α → Value) (es : Es α) : List (ByteArray × Value) := es.map fun p => (p.1, enc p.2)
structure MapAt (T : TypeId) {α : Type} (enc : α → Value) (w : World) (B mb : Nat) (lo : Option Addr) (ob : Nat) (es : Es α) : Prop where
  hB : B ≤ mb
  hO : B ≤ ob
  blk : Blk w mb [.pointer lo, .map (some ob)] T
  map : KMap w ob .string encS (encE enc es)
structure CellAt (T : TypeId) (w : World) (B cb : Nat) (lo : Option Addr) (cs : List Value) : Prop where
  hB : B ≤ cb
  blk : Blk w cb (.pointer lo :: cs) T
theorem encE_look {α : Type} (enc : α → Value) (es : Es α) (k : ByteArray) : look (encE enc es) k = (look es k).map enc := look_map _ es k
/-- A variable. -/
structure Vr where
  v : ByteArray
  s : Bool
  e : Bool
  f : Bool
  deriving DecidableEq
/-- A command with a kind and a name, and nothing else. -/
structure Nd where
  k : Int
  s : ByteArray
def encV (x : Vr) : Value := .agg #[.string x.v, .bool x.s, .bool x.e, .bool x.f]
def encN (x : Nd) : Value := .agg #[.int .i64 x.k, .bool false, .string x.s, .bool false, .slice none 0 0, .slice none 0 0, .slice none 0 0, .slice none 0 0, .slice none 0 0]
def encW (x : ByteArray) : Value := .agg #[.string x]
def noV : Vr := ⟨⟨#[]⟩, false, false, false⟩
def noN : Nd := ⟨0, ⟨#[]⟩⟩
def noW : ByteArray := ⟨#[]⟩
def cellsV (x : Vr) : List Value := [.string x.v, .bool x.s, .bool x.e, .bool x.f]
def cellsN (x : Nd) : List Value := [.int .i64 x.k, .bool false, .string x.s, .bool false, .slice none 0 0, .slice none 0 0, .slice none 0 0, .slice none 0 0, .slice none 0 0]
def cellsW (x : ByteArray) : List Value := [.string x]
section
variable {α : Type} {enc : α → Value} {T : TypeId} {w w' : World} {B mb cb ob : Nat} {lo : Option Addr} {es : Es α} {cs : List Value}
theorem MapAt.keep (h : MapAt T enc w B mb lo ob es) (h1 : w'.heap[mb]? = w.heap[mb]?) (h2 : w'.heap[ob]? = w.heap[ob]?) : MapAt T enc w' B mb lo ob es := ⟨h.hB, h.hO, h1.trans h.blk, h.map.keep h2⟩
theorem MapAt.fr {B' : Nat} {P : TypeId → Prop} {M : Nat → Prop} (h : MapAt T enc w B mb lo ob es) (k : Fr B' P M w w') (hT : ¬ P T) (hM : ∀ b, M b → b ≠ mb ∧ b ≠ ob) : MapAt T enc w' B mb lo ob es :=
  ⟨h.hB, h.hO, h.blk.fr k hT (fun e => (hM _ e).1 rfl), h.map.fr k (fun e => (hM _ e).2 rfl)⟩
theorem CellAt.fr {B' : Nat} {P : TypeId → Prop} {M : Nat → Prop} (h : CellAt T w B cb lo cs) (k : Fr B' P M w w') (hT : ¬ P T) (hM : ¬ M cb) : CellAt T w' B cb lo cs := ⟨h.hB, h.blk.fr k hT hM⟩
theorem MapAt.below (h : MapAt T enc w B mb lo ob es) (k : Below w.heap.size w w') : MapAt T enc w' B mb lo ob es := h.keep (k.block _ h.blk.lt) (k.block _ h.map.lt)
theorem Below.of_alloc (w : World) (o : Obj) : Below w.heap.size w (w.alloc o) := (Below.refl _ w).alloc (Nat.le_refl _) o
theorem CellAt.below (h : CellAt T w B cb lo cs) (k : Below w.heap.size w w') : CellAt T w' B cb lo cs := ⟨h.hB, (k.block _ h.blk.lt).trans h.blk⟩
theorem MapAt.put (h : MapAt T enc w B mb lo ob es) (k : ByteArray) (v : α) (o : Obj) (hk : KMap (setBlock w ob o) ob .string encS (putK (encE enc es) k (enc v))) : MapAt T enc (setBlock w ob o) B mb lo ob (putK es k v) :=
  ⟨h.hB, h.hO, (setB_other (fun e => by have := h.blk; rw [e] at this; exact absurd this h.map.no_cells) o).trans h.blk, by
    have := putK_map enc es k v
    unfold encE at hk ⊢
    rw [← this]; exact hk⟩
theorem MapAt.del (h : MapAt T enc w B mb lo ob es) (k : ByteArray) (o : Obj) (hk : KMap (setBlock w ob o) ob .string encS ((encE enc es).filter fun p => p.1 ≠ k)) : MapAt T enc (setBlock w ob o) B mb lo ob (dropK es k) :=
  ⟨h.hB, h.hO, (setB_other (fun e => by have := h.blk; rw [e] at this; exact absurd this h.map.no_cells) o).trans h.blk, by
    have := dropK_map enc es k
    unfold encE at hk ⊢
    rw [← this]; exact hk⟩
/-- What a map's note goes back to: a value, or none. -/
def ntOf (es : Es α) (k : ByteArray) : Option α := look es k
end
section
variable {P : Program} {ops : Array Oper} {Q : Exit → Act → World → Prop} {md : Region.Mode} {S : World → Prop} {L : Nat}
/-- Two operations that may come up. -/
theorem wpAnyT_two {i j : Nat} {oi oj : Oper} {fuel : Nat} {listed : Array Bool} {a : Act} {w : World} (hi : ops[i]? = some oi) (hj : ops[j]? = some oj) (hr : Region.ready md ops listed = [i, j]) (gi : oi.guard = none) (gj : oj.guard = none)
    (h1 : oi.wp P a w (fun a' w' => (i ≠ L → S w') ∧ wpAnyT P md ops Q S L fuel (listed.setIfInBounds i true) a' w') Q)
    (h2 : oj.wp P a w (fun a' w' => (j ≠ L → S w') ∧ wpAnyT P md ops Q S L fuel (listed.setIfInBounds j true) a' w') Q) : wpAnyT P md ops Q S L (fuel + 1) listed a w := by
  refine ⟨fun h0 => (by rw [hr] at h0; cases h0), fun k hk => ?_⟩
  rw [hr] at hk
  rcases List.mem_cons.1 hk with rfl | hk
  · unfold wpOp
    simp only [hi, Region.wanted, gi, if_true]
    exact .inl h1
  · rw [List.mem_singleton] at hk
    subst hk
    unfold wpOp
    simp only [hj, Region.wanted, gj, if_true]
    exact .inl h2
end
set_option maxRecDepth 100000 in
theorem oneZero_any (k : ByteArray) (w : World) :
    Calls Tryz.prog 124 #[.string k] w fun e w' => e = .returned (.string k) ∧ w' = w := by
  by_cases hk : k.data.toList = []
  · have hk2 : k = ⟨#[]⟩ := by
      have h1 : k.data = #[] := Array.toList_eq_nil_iff.1 hk
      cases k; simp_all
    clear hk
    subst hk2
    go_enter Tryz.func124, Tryz.ntmps124
    go_wp2
    go_ret
    exact ⟨rfl, rfl⟩
  · have hk1 : k.toList.isEmpty = false := by
      rw [ByteArray.toList_eq]
      cases h : k.data.toList with
      | nil => exact absurd h hk
      | cons => rfl
    clear hk
    go_enter Tryz.func124, Tryz.ntmps124
    go_wp2
    go_ret
    exact ⟨rfl, rfl⟩
end Go.Proofs.YtigmdfdcflkggaaGreat
/-
  What a state knows, without memory: its maps, options and arguments; notes, and what goes back by them; marks. Conditions: none.
-/
namespace Go.Proofs.YtigmdfdcflkggaaGreat
open Go Go.RowKit

/-- What is given: a slice, the cursor, and which texts the slice has. -/
structure Gv where
  A : Option Addr
  n : Nat
  c : Nat
  a : Int
  i : Int
  l : List ByteArray
/-- What a state knows. -/
structure Sta where
  v : ByteArray → Option Vr
  f : ByteArray → Option Nd
  a : ByteArray → Option ByteArray
  t : ByteArray → Option ByteArray
  o : ByteArray
  g : Gv
/-- What is to be done. -/
inductive Nt where
  | v (k : ByteArray) (x : Option Vr)
  | f (k : ByteArray) (x : Option Nd)
  | a (k : ByteArray) (x : Option ByteArray)
  | t (k : ByteArray) (x : Option ByteArray)
  | o (s : ByteArray)
  | g (x : Gv)
def updF {α : Type} (f : ByteArray → Option α) (k : ByteArray) (x : Option α) : ByteArray → Option α := fun j => if j = k then x else f j
theorem updF_back {α : Type} (f : ByteArray → Option α) (k : ByteArray) (y : Option α) : updF (updF f k y) k (f k) = f := by
  funext j
  unfold updF
  by_cases h : j = k
  · rw [if_pos h, h]
  · rw [if_neg h, if_neg h]
def apN : Nt → Sta → Sta
  | .v k x, s => { s with v := updF s.v k x }
  | .f k x, s => { s with f := updF s.f k x }
  | .a k x, s => { s with a := updF s.a k x }
  | .t k x, s => { s with t := updF s.t k x }
  | .o x, s => { s with o := x }
  | .g x, s => { s with g := x }
theorem ap_v (s : Sta) (k : ByteArray) (y : Option Vr) : apN (.v k (s.v k)) { s with v := updF s.v k y } = s := by
  show { s with v := updF (updF s.v k y) k (s.v k) } = s
  rw [updF_back]
theorem ap_f (s : Sta) (k : ByteArray) (y : Option Nd) : apN (.f k (s.f k)) { s with f := updF s.f k y } = s := by
  show { s with f := updF (updF s.f k y) k (s.f k) } = s
  rw [updF_back]
theorem ap_a (s : Sta) (k : ByteArray) (y : Option ByteArray) : apN (.a k (s.a k)) { s with a := updF s.a k y } = s := by
  show { s with a := updF (updF s.a k y) k (s.a k) } = s
  rw [updF_back]
theorem ap_t (s : Sta) (k : ByteArray) (y : Option ByteArray) : apN (.t k (s.t k)) { s with t := updF s.t k y } = s := by
  show { s with t := updF (updF s.t k y) k (s.t k) } = s
  rw [updF_back]
theorem ap_o (s : Sta) (x : ByteArray) : apN (.o s.o) { s with o := x } = s := rfl
theorem ap_g (s : Sta) (x : Gv) : apN (.g s.g) { s with g := x } = s := rfl
/-- Notes are done from the last one on. -/
def back (ns : List Nt) (st : Sta) : Sta := ns.foldr apN st
theorem back_app (a b : List Nt) (st : Sta) : back (a ++ b) st = back a (back b st) := by unfold back; exact List.foldr_append
theorem back_one (n : Nt) (st : Sta) : back [n] st = apN n st := rfl
def KF {α : Type} (P : α → Prop) (f : ByteArray → Option α) : Prop := ∀ k x, f k = some x → k.size ≤ 200 ∧ P x
theorem KF.upd {α : Type} {P : α → Prop} {f : ByteArray → Option α} (h : KF P f) {k : ByteArray} {x : Option α} (hk : ∀ y, x = some y → k.size ≤ 200 ∧ P y) : KF P (updF f k x) := by
  intro j y hj
  unfold updF at hj
  split at hj
  · rename_i e; rw [e]; exact hk y hj
  · exact h j y hj
/-- Keys are short. -/
structure KB (s : Sta) : Prop where
  v : KF (fun x : Vr => x.v.size ≤ 5000) s.v
  f : KF (fun _ => True) s.f
  a : KF (fun _ => True) s.a
  t : KF (fun _ => True) s.t
def NB : Nt → Prop
  | .v k x => ∀ y, x = some y → k.size ≤ 200 ∧ y.v.size ≤ 5000
  | .f k x => ∀ y, x = some y → k.size ≤ 200 ∧ True
  | .a k x => ∀ y, x = some y → k.size ≤ 200 ∧ True
  | .t k x => ∀ y, x = some y → k.size ≤ 200 ∧ True
  | _ => True
theorem KB.ap {st : Sta} (h : KB st) {n : Nt} (hn : NB n) : KB (apN n st) := by
  cases n with
  | v k x => exact ⟨h.v.upd hn, h.f, h.a, h.t⟩
  | f k x => exact ⟨h.v, h.f.upd hn, h.a, h.t⟩
  | a k x => exact ⟨h.v, h.f, h.a.upd hn, h.t⟩
  | t k x => exact ⟨h.v, h.f, h.a, h.t.upd hn⟩
  | o s => exact ⟨h.v, h.f, h.a, h.t⟩
  | g s => exact ⟨h.v, h.f, h.a, h.t⟩
theorem KB.back {st : Sta} (h : KB st) {ns : List Nt} (hn : ∀ n ∈ ns, NB n) : KB (back ns st) := by
  induction ns with
  | nil => exact h
  | cons n ns ih => exact (ih fun m hm => hn m (List.mem_cons_of_mem _ hm)).ap (hn n (List.mem_cons_self ..))
/-- What there is, what is noted, and what there was at each mark. -/
structure Tg where
  most : Nat
  nest : Nat
  cur : Sta
  ns : List Nt
  was : List (Nat × Sta)
structure Tg.Good (t : Tg) : Prop where
  pos : ∀ p ∈ t.was, p.1 ≤ t.ns.length
  bk : ∀ p ∈ t.was, back (t.ns.drop p.1) t.cur = p.2
  mono : t.was.Pairwise (fun a b => a.1 ≤ b.1)
  none : t.was = [] → t.ns = []
  first : ∀ p, t.was.head? = some p → p.1 = 0
  nest1 : t.was.length ≤ t.nest
  most1 : t.ns.length ≤ t.most
  kb : KB t.cur
  nb : ∀ n ∈ t.ns, NB n
def Tg.full (t : Tg) : Prop := t.was ≠ [] ∧ t.ns.length = t.most
instance (t : Tg) : Decidable t.full := by unfold Tg.full; infer_instance
/-- One note more, and what there is behind it. -/
def Tg.noted (t : Tg) (n : Nt) (st : Sta) : Tg := { t with cur := st, ns := if t.was = [] then t.ns else t.ns ++ [n] }
theorem Tg.Good.noted {t : Tg} (h : t.Good) (hf : ¬ t.full) {n : Nt} {st : Sta} (hn : apN n st = t.cur) (hk : KB st) (hb : NB n) : (t.noted n st).Good := by
  by_cases hw : t.was = []
  · have e : t.noted n st = { t with cur := st } := by unfold Tg.noted; rw [if_pos hw]
    rw [e]
    exact ⟨h.pos, fun p hp => (by simp only [hw] at hp; cases hp), h.mono, h.none, h.first, h.nest1, h.most1, hk, h.nb⟩
  · have e : t.noted n st = { t with cur := st, ns := t.ns ++ [n] } := by unfold Tg.noted; rw [if_neg hw]
    rw [e]
    refine ⟨fun p hp => ?_, fun p hp => ?_, h.mono, fun e => absurd e hw, h.first, h.nest1, ?_, hk, fun m hm => ?_⟩
    · have := h.pos p hp
      simp only [List.length_append]; omega
    · show back ((t.ns ++ [n]).drop p.1) st = p.2
      rw [List.drop_append_of_le_length (h.pos p hp), back_app, back_one, hn]
      exact h.bk p hp
    · have h1 := h.most1
      have : t.ns.length ≠ t.most := fun e => hf ⟨hw, e⟩
      simp only [List.length_append, List.length_cons, List.length_nil]; omega
    · rcases List.mem_append.1 hm with hm | hm
      · exact h.nb m hm
      · rw [List.mem_singleton.1 hm]; exact hb
def Tg.marked (t : Tg) : Tg := { t with was := t.was ++ [(t.ns.length, t.cur)] }
theorem Tg.Good.marked {t : Tg} (h : t.Good) (hf : t.was.length < t.nest) : t.marked.Good := by
  refine ⟨fun p hp => ?_, fun p hp => ?_, ?_, fun e => ?_, fun p hp => ?_, ?_, h.most1, h.kb, h.nb⟩
  · rcases List.mem_append.1 hp with hp | hp
    · exact h.pos p hp
    · rw [List.mem_singleton.1 hp]; exact Nat.le_refl _
  · rcases List.mem_append.1 hp with hp | hp
    · exact h.bk p hp
    · rw [List.mem_singleton.1 hp]
      show back (t.ns.drop t.ns.length) t.cur = t.cur
      rw [List.drop_length]; rfl
  · refine List.pairwise_append.2 ⟨h.mono, List.pairwise_singleton _ _, fun a ha b hb => ?_⟩
    rw [List.mem_singleton.1 hb]
    exact h.pos a ha
  · exact absurd (congrArg List.length e) (by simp [Tg.marked])
  · replace hp : (t.was ++ [(t.ns.length, t.cur)]).head? = some p := hp
    cases hw : t.was with
    | nil =>
      rw [hw] at hp
      cases hp
      rw [h.none hw]; rfl
    | cons q w =>
      rw [hw] at hp
      exact h.first p (by rw [hw]; exact hp)
  · show (t.was ++ [(t.ns.length, t.cur)]).length ≤ t.nest
    rw [List.length_append, List.length_singleton]; exact hf
/-- Back to the last mark. -/
def Tg.undone (t : Tg) (w : List (Nat × Sta)) (p : Nat × Sta) : Tg := { t with cur := p.2, ns := t.ns.take p.1, was := w }
theorem Tg.Good.undone {t : Tg} (h : t.Good) {w : List (Nat × Sta)} {p : Nat × Sta} (hw : t.was = w ++ [p]) : (t.undone w p).Good := by
  have hp : p ∈ t.was := by rw [hw]; simp
  have hm := h.mono
  rw [hw, List.pairwise_append] at hm
  have hle : ∀ q ∈ w, q.1 ≤ p.1 := fun q hq => hm.2.2 q hq p (List.mem_singleton.2 rfl)
  have hpl := h.pos p hp
  have hl : (t.ns.take p.1).length = p.1 := by rw [List.length_take]; omega
  refine ⟨fun q hq => ?_, fun q hq => ?_, hm.1, fun e => ?_, fun q hq => ?_, ?_, ?_, ?_, fun n hn => h.nb n (List.mem_of_mem_take hn)⟩
  · show q.1 ≤ (t.ns.take p.1).length
    rw [hl]; exact hle q hq
  · show back ((t.ns.take p.1).drop q.1) p.2 = q.2
    have hq2 : q ∈ t.was := by rw [hw]; exact List.mem_append_left _ hq
    rw [← h.bk p hp, ← back_app]
    have : (t.ns.take p.1).drop q.1 ++ t.ns.drop p.1 = t.ns.drop q.1 := by
      rw [← List.drop_append_of_le_length (by rw [hl]; exact hle q hq), List.take_append_drop]
    rw [this]
    exact h.bk q hq2
  · have e : w = [] := e
    have h0 := h.first p (by rw [hw, e]; rfl)
    show t.ns.take p.1 = []
    rw [h0]; rfl
  · replace hq : w.head? = some q := hq
    cases w with
    | nil => cases hq
    | cons a w => exact h.first q (by rw [hw]; exact hq)
  · have := h.nest1
    rw [hw, List.length_append] at this
    show w.length ≤ t.nest
    omega
  · show (t.ns.take p.1).length ≤ t.most
    have := h.most1
    rw [hl]; omega
  · show KB p.2
    rw [← h.bk p hp]
    exact h.kb.back fun n hn => h.nb n (List.mem_of_mem_drop hn)

def Tg.putv (t : Tg) (k : ByteArray) (x : Vr) : Int × Tg := if t.full then (43, t) else (0, t.noted (.v k (t.cur.v k)) { t.cur with v := updF t.cur.v k (some x) })
def Tg.delv (t : Tg) (k : ByteArray) : Int × Tg := match t.cur.v k with | none => (0, t) | some _ => if t.full then (43, t) else (0, t.noted (.v k (t.cur.v k)) { t.cur with v := updF t.cur.v k none })
def Tg.putf (t : Tg) (k : ByteArray) (x : Nd) : Int × Tg := if t.full then (43, t) else (0, t.noted (.f k (t.cur.f k)) { t.cur with f := updF t.cur.f k (some x) })
def Tg.delf (t : Tg) (k : ByteArray) : Int × Tg := match t.cur.f k with | none => (0, t) | some _ => if t.full then (43, t) else (0, t.noted (.f k (t.cur.f k)) { t.cur with f := updF t.cur.f k none })
def Tg.puta (t : Tg) (k : ByteArray) (x : ByteArray) : Int × Tg := if t.full then (43, t) else (0, t.noted (.a k (t.cur.a k)) { t.cur with a := updF t.cur.a k (some x) })
def Tg.dela (t : Tg) (k : ByteArray) : Int × Tg := match t.cur.a k with | none => (0, t) | some _ => if t.full then (43, t) else (0, t.noted (.a k (t.cur.a k)) { t.cur with a := updF t.cur.a k none })
def Tg.putt (t : Tg) (k : ByteArray) (x : ByteArray) : Int × Tg := if t.full then (43, t) else (0, t.noted (.t k (t.cur.t k)) { t.cur with t := updF t.cur.t k (some x) })
def Tg.delt (t : Tg) (k : ByteArray) : Int × Tg := match t.cur.t k with | none => (0, t) | some _ => if t.full then (43, t) else (0, t.noted (.t k (t.cur.t k)) { t.cur with t := updF t.cur.t k none })
def Tg.seto (t : Tg) (x : ByteArray) : Int × Tg := if t.full then (43, t) else (0, t.noted (.o t.cur.o) { t.cur with o := x })
def Tg.setg (t : Tg) (x : Gv) : Int × Tg := if t.full then (43, t) else (0, t.noted (.g t.cur.g) { t.cur with g := x })
def Tg.mark (t : Tg) : Int × Int × Tg := if t.was.length = t.nest then (0, 42, t) else ((t.was.length : Int) + 1, 0, t.marked)
def Tg.undo (t : Tg) : Int × Tg := match t.was.getLast? with | none => (1, t) | some p => (0, t.undone t.was.dropLast p)
end Go.Proofs.YtigmdfdcflkggaaGreat
