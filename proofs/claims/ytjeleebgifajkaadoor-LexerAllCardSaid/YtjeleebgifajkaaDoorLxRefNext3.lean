/-
  The document's Next tells what Next tells; same says that a thing is the same as itself. Conditions: none.
-/
import Derived.Test.YtjeleebgifajkaaDoorLxRefNext2
import Derived.Test.YtjeleebgifajkaaDoorLxAwake
set_option linter.unusedSimpArgs false
set_option linter.unusedVariables false
namespace Go.Proofs.YtjeleebgifajkaaDoor
open Go Go.Shelf Go.RowKit Go.ChangeMaps
section
set_option maxRecDepth 100000
set_option maxHeartbeats 4000000
theorem rNext_any (s : ByteArray) (at_ : Int) (w : World) :
    Calls Tryd.prog 11 #[.string s, .int .i64 at_] w fun e w' => e = .returned (nextV s at_) ∧ Below w.heap.size w w' := by
  by_cases hc : chk s at_ = 0
  · obtain ⟨hs, k, rfl, hk⟩ := chk_0 hc
    have h := rnext_any s k hk (by omega) hc w
    have e1 : nextV s (k : Int) = .tuple #[tokE s (nextP (bl s) k), .int .i64 (errE (nextP (bl s) k))] := by unfold nextV; rw [if_neg (fun h => h hc)]; rfl
    rw [e1]
    exact h
  · obtain ⟨R, hR⟩ : ∃ R, nextV s at_ = R := ⟨_, rfl⟩
    rw [hR]
    have hh := fun W => may_any s at_ W
    unfold nextV at hR
    rw [if_pos hc] at hR
    obtain ⟨z, hz⟩ : ∃ z, w.heap.size = z := ⟨_, rfl⟩
    have hb0 : Below z w (w.alloc (.cells #[.int .i64 0, .string ⟨#[]⟩, .int .i64 0, .int .i64 0] 28)) := by rw [← hz]; exact (Below.refl _ w).alloc (Nat.le_refl _) _
    have b0 : Blk (w.alloc (.cells #[.int .i64 0, .string ⟨#[]⟩, .int .i64 0, .int .i64 0] 28)) z [.int .i64 0, .string ⟨#[]⟩, .int .i64 0, .int .i64 0] 28 := by rw [← hz]; exact Blk.new w _ _
    replace hb0 := Lib.hid hb0
    replace b0 := Lib.hid b0
    generalize chk s at_ = c at hc hh hR
    replace hh := Lib.hid hh
    replace hR := Lib.hid hR
    go_enter Tryd.func11, Tryd.ntmps11
    go_upto_region 1 with fail
    try rw [hz]
    generalize (w.alloc (.cells #[.int .i64 0, .string ⟨#[]⟩, .int .i64 0, .int .i64 0] 28)) = w1 at hb0 b0 ⊢
    replace hz := Lib.hid hz
    go_wp2_with fail
    refine (hh.out _).mono ?_
    rintro e w' ⟨rfl, hwq⟩
    obtain rfl := hwq.symm
    clear hh hwq
    have hb2 := Below.refl w1.heap.size w1
    have b2 : Blk w1 z _ _ := (hb2.block z b0.out.lt).trans b0.out
    have hbz : Below z w w1 := hb0.out.trans (hb2.mono (by have := b0.out.lt; omega))
    have f0 := b2.frozen 0
    have f1 := b2.frozen 1
    have f2 := b2.frozen 2
    have f3 := b2.frozen 3
    have l2 := b2.lt
    have e0 := b2.cell (i := 0) rfl
    have e1 := b2.cell (i := 1) rfl
    have e2 := b2.cell (i := 2) rfl
    have e3 := b2.cell (i := 3) rfl
    have bE : Blk ((((w1.setCell ⟨z, 0, none⟩ (.int .i64 0)).setCell ⟨z, 1, none⟩ (.string ⟨#[]⟩)).setCell ⟨z, 2, none⟩ (.int .i64 0)).setCell ⟨z, 3, none⟩ (.int .i64 0)) z [(.int .i64 0), (.string ⟨#[]⟩), (.int .i64 0), (.int .i64 0)] 28 := (((b2.set 0 (.int .i64 0)).set 1 (.string ⟨#[]⟩)).set 2 (.int .i64 0)).set 3 (.int .i64 0)
    have hbE : Below z w ((((w1.setCell ⟨z, 0, none⟩ (.int .i64 0)).setCell ⟨z, 1, none⟩ (.string ⟨#[]⟩)).setCell ⟨z, 2, none⟩ (.int .i64 0)).setCell ⟨z, 3, none⟩ (.int .i64 0)) := (((hbz.setCell (Nat.le_refl z) _).setCell (Nat.le_refl z) _).setCell (Nat.le_refl z) _).setCell (Nat.le_refl z) _
    replace bE := Lib.hid bE
    replace hbE := Lib.hid hbE
    clear hb2 b2 hbz 
    go_wp2
    generalize ((((w1.setCell ⟨z, 0, none⟩ (.int .i64 0)).setCell ⟨z, 1, none⟩ (.string ⟨#[]⟩)).setCell ⟨z, 2, none⟩ (.int .i64 0)).setCell ⟨z, 3, none⟩ (.int .i64 0)) = wE at bE hbE ⊢
    have g0 := bE.out.cell (i := 0) rfl
    have g1 := bE.out.cell (i := 1) rfl
    have g2 := bE.out.cell (i := 2) rfl
    have g3 := bE.out.cell (i := 3) rfl
    exact bodyPost_ret (v := .tuple #[.agg #[(.int .i64 0), (.string ⟨#[]⟩), (.int .i64 0), (.int .i64 0)], .int .i64 c]) (by simp [results, Tryd.results11, g0, g1, g2, g3, go_sem]) rfl ⟨by rw [← hR.out], by rw [hz.out]; exact hbE.out⟩

theorem same_any (a c d : Int) (b : ByteArray) (w : World) :
    Calls Tryd.prog 14 #[.agg #[.int .i64 a, .string b, .int .i64 c, .int .i64 d], .agg #[.int .i64 a, .string b, .int .i64 c, .int .i64 d]] w fun e w' => e = .returned (.bool true) ∧ Below w.heap.size w w' := by
  have bz1 := (Blk.new w [.int .i64 a, .string b, .int .i64 c, .int .i64 d] 24).alloc (.cells #[.int .i64 a, .string b, .int .i64 c, .int .i64 d] 28)
  have bz2 := Blk.new (w.alloc (.cells #[.int .i64 a, .string b, .int .i64 c, .int .i64 d] 24)) [.int .i64 a, .string b, .int .i64 c, .int .i64 d] 28
  have hb : Below w.heap.size w ((w.alloc (.cells #[.int .i64 a, .string b, .int .i64 c, .int .i64 d] 24)).alloc (.cells #[.int .i64 a, .string b, .int .i64 c, .int .i64 d] 28)) := ((Below.refl _ w).alloc (Nat.le_refl _) _).alloc (by simp) _
  have hsz : (w.alloc (.cells #[.int .i64 a, .string b, .int .i64 c, .int .i64 d] 24)).heap.size = w.heap.size + 1 := by simp
  rw [hsz] at bz2
  obtain ⟨z, hz⟩ : ∃ z, w.heap.size = z := ⟨_, rfl⟩
  rw [hz] at bz1 bz2 hb
  rw [hz]
  replace bz1 := Lib.hid bz1
  replace bz2 := Lib.hid bz2
  replace hb := Lib.hid hb
  clear hsz
  go_enter Tryd.func14, Tryd.ntmps14
  go_upto_region 1 with fail
  try rw [hz]
  generalize ((w.alloc (.cells #[.int .i64 a, .string b, .int .i64 c, .int .i64 d] 24)).alloc (.cells #[.int .i64 a, .string b, .int .i64 c, .int .i64 d] 28)) = w1 at bz1 bz2 hb ⊢
  have p0 := bz1.out.cell (i := 0) rfl
  have p1 := bz1.out.cell (i := 1) rfl
  have p2 := bz1.out.cell (i := 2) rfl
  have p3 := bz1.out.cell (i := 3) rfl
  have q0 := bz2.out.cell (i := 0) rfl
  have q1 := bz2.out.cell (i := 1) rfl
  have q2 := bz2.out.cell (i := 2) rfl
  have q3 := bz2.out.cell (i := 3) rfl
  go_wp2
  go_ret
  exact ⟨rfl, hb.out⟩
end
end Go.Proofs.YtjeleebgifajkaaDoor
