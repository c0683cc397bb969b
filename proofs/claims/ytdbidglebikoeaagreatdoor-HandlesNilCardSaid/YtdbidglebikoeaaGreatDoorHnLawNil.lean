/-
  HandlesNil answers true, and leaves memory as it was. Conditions: none.
-/
import Derived.Test.YtdbidglebikoeaaGreatDoorHnAwake
import Derived.Test.YtdbidglebikoeaaGreatDoorHnDoes
import Derived.Deep.RegionHeld3
namespace Go.Proofs.YtdbidglebikoeaaGreatDoor
open Go Go.RowKit

set_option maxHeartbeats 4000000 in
set_option maxRecDepth 100000 in
theorem lawNil_any (l : List Opd) (v : Value) (w : World) (h : Ops w v l) :
    Calls Tryz.prog 7 #[v] w fun e w' => e = .returned (.bool true) ∧ w.grownBy w' none := by
  have hfew := few_any l v w h
  obtain ⟨A, c, rfl, hc, hcm⟩ := h.form
  unfold maxLen at hcm
  have haw := fun W => awake_any W
  by_cases hf : fewB l = true
  · rw [hf] at hfew
    have hl40 := (few_true hf).1
    have hops := h
    replace hops := Lib.hid hops
    have hin : ∀ k (hk : k < l.length), In4 l[k] := fun k hk => h.2 _ (List.getElem_mem hk)
    replace hin := Lib.hid hin
    clear h hf
    obtain ⟨KL, hKL⟩ : ∃ KL, l.length = KL := ⟨_, rfl⟩
    rw [hKL] at hc hl40 hfew hops ⊢
    replace hKL := Lib.hid hKL
    replace haw := Lib.hid haw
    go_enter Tryz.func7, Tryz.ntmps7
    go_wp2_with fail
    refine hfew.mono ?_
    rintro e w' ⟨rfl, hw⟩
    obtain rfl := hw.symm
    clear hfew hw
    go_upto_region 4 with fail
    have gA : w.grownBy (w.alloc (.cells #[.pointer none, .pointer none, .pointer none] 29)) none := World.grownBy_alloc w _ _
    have zb : Blk (w.alloc (.cells #[.pointer none, .pointer none, .pointer none] 29)) w.heap.size [.pointer none, .pointer none, .pointer none] 29 := Blk.new w _ _
    generalize (w.alloc (.cells #[.pointer none, .pointer none, .pointer none] 29)) = w1 at gA zb ⊢
    obtain ⟨z, hz⟩ : ∃ z, w.heap.size = z := ⟨_, rfl⟩
    simp only [hz] at zb ⊢
    replace gA := Lib.hid gA
    replace zb := Lib.hid zb
    replace hz := Lib.hid hz
    go_wp2
    go_loopw [4] (fun nv wr => ∃ n : Nat, n ≤ KL ∧ nv = .int .i64 (n : Int) ∧ w1.grownBy wr none) (fun nv _ => KL - (intOf nv).toNat)
    case atStart => exact ⟨0, Nat.zero_le _, rfl, grownBy_re w1⟩
    case round =>
      obtain ⟨n, hn, rfl, hgr⟩ := hrel
      have hb0 : Blk wr z [.pointer none, .pointer none, .pointer none] 29 := (hgr.block z zb.out.lt (by simp)).trans zb.out
      by_cases hlt : n < KL
      · have hlt' : n < l.length := by rw [hKL.out]; exact hlt
        obtain ⟨b, off, rfl, hb, c0, c1, c2, c3, c4, c5, c6, c7⟩ := ops_keep hops.out (wr := wr) (fun g hg => (hgr.block g (Nat.lt_of_lt_of_le hg gA.out.size) (by simp)).trans (gA.out.block g hg (by simp))) n hlt'
        have hdo := fun W => does_nil l[n] (hin.out n hlt') W
        have hbr : b < wr.heap.size := Nat.lt_of_lt_of_le hb (Nat.le_trans gA.out.size hgr.size)
        generalize l[n].1 = q0 at hdo c0
        generalize l[n].2.1 = q1 at hdo c1
        generalize l[n].2.2.1 = q2 at hdo c2
        generalize l[n].2.2.2.1 = q3 at hdo c3
        generalize l[n].2.2.2.2.1 = q4 at hdo c4
        generalize l[n].2.2.2.2.2.1 = q5 at hdo c5
        generalize l[n].2.2.2.2.2.2.1 = q6 at hdo c6
        generalize l[n].2.2.2.2.2.2.2 = q7 at hdo c7
        have z0 := hb0.cell (i := 0) rfl
        have z1 := hb0.cell (i := 1) rfl
        have z2 := hb0.cell (i := 2) rfl
        have hzl := hb0.lt
        have hkp : ∀ w', wr.grownBy w' none → w'.cell? ⟨z, 0, none⟩ = some (.pointer none) ∧ w'.cell? ⟨z, 1, none⟩ = some (.pointer none) ∧ w'.cell? ⟨z, 2, none⟩ = some (.pointer none) ∧ w'.cell? ⟨b, off + n * 8, none⟩ = some (.int .i64 q0) ∧ w'.cell? ⟨b, off + n * 8 + 1, none⟩ = some (.int .i64 q1) ∧ w'.cell? ⟨b, off + n * 8 + 2, none⟩ = some (.int .i64 q2) ∧ w'.cell? ⟨b, off + n * 8 + 3, none⟩ = some (.int .i64 q3) ∧ w'.cell? ⟨b, off + n * 8 + 4, none⟩ = some (.bool q4) ∧ w'.cell? ⟨b, off + n * 8 + 5, none⟩ = some (.bool q5) ∧ w'.cell? ⟨b, off + n * 8 + 6, none⟩ = some (.bool q6) ∧ w'.cell? ⟨b, off + n * 8 + 7, none⟩ = some (.string q7) := fun w' hg => ⟨(World.cell?_of_block (a := ⟨z, 0, none⟩) (hg.block z hzl (by simp))).trans z0, (World.cell?_of_block (a := ⟨z, 1, none⟩) (hg.block z hzl (by simp))).trans z1, (World.cell?_of_block (a := ⟨z, 2, none⟩) (hg.block z hzl (by simp))).trans z2, (World.cell?_of_block (a := ⟨b, off + n * 8, none⟩) (hg.block b hbr (by simp))).trans c0, (World.cell?_of_block (a := ⟨b, off + n * 8 + 1, none⟩) (hg.block b hbr (by simp))).trans c1, (World.cell?_of_block (a := ⟨b, off + n * 8 + 2, none⟩) (hg.block b hbr (by simp))).trans c2, (World.cell?_of_block (a := ⟨b, off + n * 8 + 3, none⟩) (hg.block b hbr (by simp))).trans c3, (World.cell?_of_block (a := ⟨b, off + n * 8 + 4, none⟩) (hg.block b hbr (by simp))).trans c4, (World.cell?_of_block (a := ⟨b, off + n * 8 + 5, none⟩) (hg.block b hbr (by simp))).trans c5, (World.cell?_of_block (a := ⟨b, off + n * 8 + 6, none⟩) (hg.block b hbr (by simp))).trans c6, (World.cell?_of_block (a := ⟨b, off + n * 8 + 7, none⟩) (hg.block b hbr (by simp))).trans c7⟩
        replace hkp := Lib.hid hkp
        replace hdo := Lib.hid hdo
        replace hgr := Lib.hid hgr
        replace hb0 := Lib.hid hb0
        have hi0 : (0 : Int) ≤ (n : Int) := by omega
        have hi1 : (n : Int) < (KL : Int) := by omega
        go_upto_region 7 with fail
        go_region_held3 (fun w' => w'.cell? ⟨z, 0, none⟩ = some (.pointer none) ∧ w'.cell? ⟨z, 1, none⟩ = some (.pointer none) ∧ w'.cell? ⟨z, 2, none⟩ = some (.pointer none) ∧ w'.cell? ⟨b, off + n * 8, none⟩ = some (.int .i64 q0) ∧ w'.cell? ⟨b, off + n * 8 + 1, none⟩ = some (.int .i64 q1) ∧ w'.cell? ⟨b, off + n * 8 + 2, none⟩ = some (.int .i64 q2) ∧ w'.cell? ⟨b, off + n * 8 + 3, none⟩ = some (.int .i64 q3) ∧ w'.cell? ⟨b, off + n * 8 + 4, none⟩ = some (.bool q4) ∧ w'.cell? ⟨b, off + n * 8 + 5, none⟩ = some (.bool q5) ∧ w'.cell? ⟨b, off + n * 8 + 6, none⟩ = some (.bool q6) ∧ w'.cell? ⟨b, off + n * 8 + 7, none⟩ = some (.string q7))
          (first | go_keep | exact hk)
          ((go_at_call 12; refine (hdo.out _).mono ?_; rintro e w5 ⟨rfl, gB⟩; have gC : wr.grownBy w5 none := ⟨gB.os, gB.tape, gB.output, gB.size, gB.block⟩; have hk := hkp.out w5 gC))
        have hgr5 := grownBy_tr hgr.out gC
        replace hgr5 := Lib.hid hgr5
        go_wp2
        go_roundw
        case rel => exact ⟨n + 1, by omega, by go_num, hgr5.out⟩
        case measure => simp [intOf]; omega
      · obtain rfl : n = KL := by omega
        have hi1 : ¬ (n : Int) < (n : Int) := by omega
        have hnn := nodes_New wr 1 1 (by decide) (by decide) (by decide)
        have z2 := hb0.cell (i := 2) rfl
        have hzl := hb0.lt
        replace hb0 := Lib.hid hb0
        replace hgr := Lib.hid hgr
        clear hops hin hc
        go_wp2_with fail
        refine hnn.mono ?_
        rintro e w2 ⟨fb, rfl, F', hT, hC⟩
        have g2 := grownBy_tr hgr.out (hC.none fun _ _ h => h)
        have b2 : Blk w2 z _ _ := (hC.block z hzl nofun).trans hb0.out
        have z2 := b2.cell (i := 2) rfl
        have hzl := b2.lt
        have hno := tab_New_nil w2 fb
        have hse := seen_nil 1 w2
        have hst := stat_no (w := w2) (tbv := .pointer none) (k := 1) (d := 2) (fun W _ => tfind_nil 1 W) (by decide)
        unfold ptrV at hno
        unfold info7 at hst
        replace g2 := Lib.hid g2
        replace b2 := Lib.hid b2
        replace hst := Lib.hid hst
        replace hse := Lib.hid hse
        clear hnn hT hC hgr hb0
        go_wp2_with fail
        refine hno.mono ?_
        rintro e w' ⟨rfl, hw⟩
        obtain rfl := hw.symm
        clear hno hw
        go_wp2_with fail
        refine hse.out.mono ?_
        rintro e w' ⟨rfl, hw⟩
        obtain rfl := hw.symm
        clear hse hw
        go_wp2_with fail
        refine hst.out.mono ?_
        rintro e w3 ⟨rfl, g3⟩
        have g4 := grownBy_tr g2.out g3
        have b4 : Blk w3 z _ _ := (g3.block z hzl (by simp)).trans b2.out
        replace g4 := Lib.hid g4
        replace b4 := Lib.hid b4
        clear hst g3 g2 b2 z2
        go_upto_region 14 with fail
        have b5 := b4.out.alloc (.cells #[.int .i64 0, .int .i64 0, .int .i64 0, .int .i64 0, .bool false, .bool false, .bool false] 46)
        have g5 : w1.grownBy (w3.alloc (.cells #[.int .i64 0, .int .i64 0, .int .i64 0, .int .i64 0, .bool false, .bool false, .bool false] 46)) none := grownBy_tr g4.out (World.grownBy_alloc w3 _ _)
        generalize (w3.alloc (.cells #[.int .i64 0, .int .i64 0, .int .i64 0, .int .i64 0, .bool false, .bool false, .bool false] 46)) = w5 at b5 g5 ⊢
        have z2 := b5.cell (i := 2) rfl
        have hzl5 := b5.lt
        have hal := all_nil w5
        have hawx := haw.out w5
        replace hawx := Lib.hid hawx
        replace hal := Lib.hid hal
        replace g5 := Lib.hid g5
        clear b4 g4 b5
        go_wp2_with fail
        refine hal.out.mono ?_
        rintro e w' ⟨rfl, hw⟩
        obtain rfl := hw.symm
        clear hal hw
        go_wp2_with fail
        refine hawx.out.mono ?_
        rintro e w6 ⟨rfl, g6⟩
        have g7 := grownBy_tr gA.out (grownBy_tr g5.out g6)
        replace g7 := Lib.hid g7
        clear hawx g6 g5
        go_wp2
        go_ret
        exact ⟨rfl, g7.out⟩
  · have hf' : fewB l = false := by cases h : fewB l; rfl; exact absurd h hf
    rw [hf'] at hfew
    have hawx := haw w
    clear h hf hf' haw
    go_enter Tryz.func7, Tryz.ntmps7
    go_wp2_with fail
    refine hfew.mono ?_
    rintro e w' ⟨rfl, hw⟩
    obtain rfl := hw.symm
    clear hfew hw
    go_wp2_with fail
    refine hawx.mono ?_
    rintro e w' ⟨rfl, hg⟩
    replace hg := Lib.hid hg
    clear hawx
    go_wp2
    go_ret
    exact ⟨rfl, hg.out⟩
end Go.Proofs.YtdbidglebikoeaaGreatDoor
