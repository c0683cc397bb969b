/-
  The chapter's example comes out as it should: awake answers true. Conditions: none.
-/
import Derived.Test.YtffipbmonfodbaaGreatDoorHnBegun
import Derived.Test.YtffipbmonfodbaaGreatDoorHnRef
import Derived.Test.YtffipbmonfodbaaGreatDoorHnStat
namespace Go.Proofs.YtffipbmonfodbaaGreatDoor
open Go Go.RowKit Go.ChangeMaps

def ndsA (h : Nat) : Nds := [(1, rootN nl4), (2, ⟨2, 1, h, 0, [120, 121, 122], none, ⟨#[]⟩⟩), (3, leafN 2 []), (4, leafN 3 [97]), (5, ⟨1, 1, 0, 1, [], some [], nm1 100⟩)]
def xyz (h : Nat) : Pn := ⟨2, 1, h, 0, [120, 121, 122], none, ⟨#[]⟩⟩
abbrev hF1 (r a : Nat) : Int × Hd := (1, ⟨r, .file 2 a true false false⟩)
abbrev hR2 : Int × Hd := (2, ⟨1, .rd 0⟩)
abbrev hW3 : Int × Hd := (3, ⟨1, .wr 0⟩)
abbrev buf0 : Bs := ⟨[], 0, 3, .slice none 0 0, .slice none 0 0, []⟩

/-- A block of the caller's, apart from all. -/
def Kp (w : World) (F : Nat → Prop) (z : Nat) (C : List Value) (t : TypeId) : Prop := Blk w z C t ∧ ¬ F z
theorem Kp.chg {w w' : World} {F F' : Nat → Prop} {z : Nat} {C : List Value} {t : TypeId} (h : Kp w F z C t) (c : Chg F F' w w') : Kp w' F' z C t := ⟨h.1.chg c h.2, c.foot z h.1.lt h.2⟩
theorem Kp.grown {w w' : World} {F : Nat → Prop} {z : Nat} {C : List Value} {t : TypeId} (h : Kp w F z C t) (c : w.grownBy w' none) : Kp w' F z C t := h.chg (Chg.of_grown c F)

set_option maxHeartbeats 4000000 in
set_option maxRecDepth 100000 in
theorem awake_any (w : World) : Calls Tryz.prog 4 #[] w fun e w' => e = .returned (.bool true) ∧ w.grownBy w' none := by
  have hbg := begun_any w
  go_enter Tryz.func4, Tryz.ntmps4
  go_wp2_with fail
  refine hbg.mono ?_
  rintro e w0 ⟨fb, plb, tb, rfl, F0, hS0, cc0⟩
  clear hbg
  unfold ptrV
  go_upto_region 2 with fail
  obtain ⟨z, hz⟩ : ∃ z, w0.heap.size = z := ⟨_, rfl⟩
  have gA : w0.grownBy (w0.alloc (.cells #[.pointer (some ⟨fb, 0, none⟩), .pointer (some ⟨plb, 0, none⟩), .pointer (some ⟨tb, 0, none⟩)] 28)) none := World.grownBy_alloc w0 _ _
  have zb : Blk (w0.alloc (.cells #[.pointer (some ⟨fb, 0, none⟩), .pointer (some ⟨plb, 0, none⟩), .pointer (some ⟨tb, 0, none⟩)] 28)) w0.heap.size [ptrV fb, ptrV plb, ptrV tb] 28 := Blk.new w0 _ _
  have hzF : ¬ F0 z := fun h => absurd (hS0.lt h) (by omega)
  generalize (w0.alloc (.cells #[.pointer (some ⟨fb, 0, none⟩), .pointer (some ⟨plb, 0, none⟩), .pointer (some ⟨tb, 0, none⟩)] 28)) = w1 at gA zb ⊢
  simp only [hz] at zb ⊢
  have kz : Kp w1 F0 z [ptrV fb, ptrV plb, ptrV tb] 28 := ⟨zb, hzF⟩
  have hS : Sys w1 F0 (begunC fb plb tb) begunS := hS0.grown gA
  have cc : Chg (fun _ => False) F0 w w1 := cc0.trans (Chg.of_grown gA F0)
  clear hS0 cc0 gA zb hzF hz
  have hop : Calls Tryz.prog 8 #[.pointer (some ⟨tb, 0, none⟩), .int .i64 2, .agg #[.bool true, .bool false, .bool false]] w1 fun e w' => e = .returned (.tuple #[.int .i64 1, .int .i64 0]) ∧ ∃ F', Sys w' F' (begunC fb plb tb) (⟨ndsA 1, [], 0, [hF1 1 0], [], 1, []⟩) ∧ Chg F0 F' w1 w' := sys_File_r hS rfl (by decide) (y := leafN 2 [120, 121, 122]) rfl rfl (by decide) (by decide) false
  have z0 := kz.1.cell (i := 0) rfl
  have z1 := kz.1.cell (i := 1) rfl
  have z2 := kz.1.cell (i := 2) rfl
  have zl := kz.1.lt
  unfold ptrV at z0 z1 z2
  replace hS := Lib.hid hS
  replace cc := Lib.hid cc
  replace kz := Lib.hid kz
  replace hop := Lib.hid hop
  go_wp2_with fail
  refine hop.out.mono ?_
  rintro e w2 ⟨rfl, F1, hS', cS⟩
  replace kz := kz.out.chg cS
  replace cc := cc.out.trans cS
  replace hS := hS'
  clear hop z0 z1 z2 zl cS hS'
  have hop : Calls Tryz.prog 13 #[.pointer (some ⟨tb, 0, none⟩), .int .i64 1] w2 fun e w' => e = .returned (.int .i64 0) ∧ ∃ F', Sys w' F' (begunC fb plb tb) (⟨ndsA 1, [], 0, [hF1 2 0], [], 1, []⟩) ∧ Chg F1 F' w2 w' := sys_Ref hS (x := ⟨1, .file 2 0 true false false⟩) rfl (by decide)
  have z0 := kz.1.cell (i := 0) rfl
  have z1 := kz.1.cell (i := 1) rfl
  have z2 := kz.1.cell (i := 2) rfl
  have zl := kz.1.lt
  unfold ptrV at z0 z1 z2
  replace hS := Lib.hid hS
  replace cc := Lib.hid cc
  replace kz := Lib.hid kz
  replace hop := Lib.hid hop
  go_wp2_with fail
  refine hop.out.mono ?_
  rintro e w3 ⟨rfl, F2, hS', cS⟩
  replace kz := kz.out.chg cS
  replace cc := cc.out.trans cS
  replace hS := hS'
  clear hop z0 z1 z2 zl cS hS'
  have hop : Calls Tryz.prog 14 #[.pointer (some ⟨tb, 0, none⟩), .int .i64 1, .int .i64 2] w3 fun e w' => e = .returned (.tuple #[.string ⟨#[120, 121]⟩, .int .i64 0]) ∧ ∃ F', Sys w' F' (begunC fb plb tb) (⟨ndsA 1, [], 0, [hF1 2 2], [], 1, []⟩) ∧ Chg F2 F' w3 w' := sys_read_file hS (x := ⟨2, .file 2 0 true false false⟩) rfl rfl (y := xyz 1) rfl (by decide) (by decide) 2 (by decide) (by decide)
  have z0 := kz.1.cell (i := 0) rfl
  have z1 := kz.1.cell (i := 1) rfl
  have z2 := kz.1.cell (i := 2) rfl
  have zl := kz.1.lt
  unfold ptrV at z0 z1 z2
  replace hS := Lib.hid hS
  replace cc := Lib.hid cc
  replace kz := Lib.hid kz
  replace hop := Lib.hid hop
  go_wp2_with fail
  refine hop.out.mono ?_
  rintro e w4 ⟨rfl, F3, hS', cS⟩
  replace kz := kz.out.chg cS
  replace cc := cc.out.trans cS
  replace hS := hS'
  clear hop z0 z1 z2 zl cS hS'
  have hop : Calls Tryz.prog 16 #[.pointer (some ⟨tb, 0, none⟩), .int .i64 1] w4 fun e w' => e = .returned (.int .i64 0) ∧ ∃ F', Sys w' F' (begunC fb plb tb) (⟨ndsA 1, [], 0, [hF1 1 2], [], 1, []⟩) ∧ Chg F3 F' w4 w' := sys_Unref hS (x := ⟨2, .file 2 2 true false false⟩) rfl (r := 0) rfl (by decide)
  have z0 := kz.1.cell (i := 0) rfl
  have z1 := kz.1.cell (i := 1) rfl
  have z2 := kz.1.cell (i := 2) rfl
  have zl := kz.1.lt
  unfold ptrV at z0 z1 z2
  replace hS := Lib.hid hS
  replace cc := Lib.hid cc
  replace kz := Lib.hid kz
  replace hop := Lib.hid hop
  go_wp2_with fail
  refine hop.out.mono ?_
  rintro e w5 ⟨rfl, F4, hS', cS⟩
  replace kz := kz.out.chg cS
  replace cc := cc.out.trans cS
  replace hS := hS'
  clear hop z0 z1 z2 zl cS hS'
  have hst : Calls Tryz.prog 17 #[.pointer (some ⟨tb, 0, none⟩), .int .i64 1] w5 fun e w' => e = .returned (.tuple #[info7 1 1 2 2 true false false, .int .i64 0]) ∧ w5.grownBy w' none := sys_stat_file hS (x := ⟨1, .file 2 2 true false false⟩) rfl rfl
  have z0 := kz.1.cell (i := 0) rfl
  have z1 := kz.1.cell (i := 1) rfl
  have z2 := kz.1.cell (i := 2) rfl
  have zl := kz.1.lt
  unfold ptrV at z0 z1 z2
  replace hS := Lib.hid hS
  replace cc := Lib.hid cc
  replace kz := Lib.hid kz
  replace hst := Lib.hid hst
  unfold info7 at hst
  go_wp2_with fail
  refine hst.out.mono ?_
  rintro e wS ⟨rfl, gS⟩
  replace kz := Lib.hid (kz.out.grown gS)
  replace cc := Lib.hid (cc.out.trans (Chg.of_grown gS _))
  replace hS := Lib.hid (hS.out.grown gS)
  clear hst z0 z1 z2 zl gS
  go_upto_region 9 with fail
  obtain ⟨xz, hxz⟩ : ∃ z, wS.heap.size = z := ⟨_, rfl⟩
  have gB : wS.grownBy (wS.alloc (.cells #[.int .i64 1, .int .i64 1, .int .i64 2, .int .i64 2, .bool true, .bool false, .bool false] 50)) none := World.grownBy_alloc wS _ _
  have xb : Blk (wS.alloc (.cells #[.int .i64 1, .int .i64 1, .int .i64 2, .int .i64 2, .bool true, .bool false, .bool false] 50)) wS.heap.size [.int .i64 1, .int .i64 1, .int .i64 2, .int .i64 2, .bool true, .bool false, .bool false] 50 := Blk.new wS _ _
  have hxF : ¬ F4 xz := fun h => absurd (hS.out.lt h) (by omega)
  generalize (wS.alloc (.cells #[.int .i64 1, .int .i64 1, .int .i64 2, .int .i64 2, .bool true, .bool false, .bool false] 50)) = w6 at gB xb ⊢
  simp only [hxz] at xb ⊢
  have kx : Kp w6 F4 xz [.int .i64 1, .int .i64 1, .int .i64 2, .int .i64 2, .bool true, .bool false, .bool false] 50 := ⟨xb, hxF⟩
  replace kz := kz.out.grown gB
  replace cc := cc.out.trans (Chg.of_grown gB _)
  replace hS := hS.out.grown gB
  clear gB xb hxF hxz
  obtain ⟨F5, hFe⟩ : ∃ F, F = F4 := ⟨_, rfl⟩
  rw [← hFe] at kz cc hS kx
  clear hFe
  have hop : Calls Tryz.prog 14 #[.pointer (some ⟨tb, 0, none⟩), .int .i64 1, .int .i64 9] w6 fun e w' => e = .returned (.tuple #[.string ⟨#[122]⟩, .int .i64 0]) ∧ ∃ F', Sys w' F' (begunC fb plb tb) (⟨ndsA 1, [], 0, [hF1 1 3], [], 1, []⟩) ∧ Chg F5 F' w6 w' := sys_read_file hS (x := ⟨1, .file 2 2 true false false⟩) rfl rfl (y := xyz 1) rfl (by decide) (by decide) 9 (by decide) (by decide)
  have z0 := kz.1.cell (i := 0) rfl
  have z1 := kz.1.cell (i := 1) rfl
  have z2 := kz.1.cell (i := 2) rfl
  have zl := kz.1.lt
  unfold ptrV at z0 z1 z2
  replace hS := Lib.hid hS
  replace cc := Lib.hid cc
  replace kz := Lib.hid kz
  replace kx := Lib.hid kx
  replace hop := Lib.hid hop
  go_wp2_with fail
  refine hop.out.mono ?_
  rintro e w7 ⟨rfl, F6, hS', cS⟩
  replace kz := kz.out.chg cS
  replace cc := cc.out.trans cS
  replace kx := kx.out.chg cS
  replace hS := hS'
  clear hop z0 z1 z2 zl cS hS'
  have hop : Calls Tryz.prog 10 #[.pointer (some ⟨tb, 0, none⟩)] w7 fun e w' => e = .returned (.tuple #[.int .i64 2, .int .i64 3, .int .i64 0]) ∧ ∃ F' pb bb, Sys w' F' (begunC fb plb tb) ⟨ndsA 1, [(bb, some buf0)], 0, [hF1 1 3, hR2, hW3], [(pb, bb, 2)], 3, []⟩ ∧ Chg F6 F' w7 w' := sys_Pipe hS rfl (by decide) (by decide)
  have z0 := kz.1.cell (i := 0) rfl
  have z1 := kz.1.cell (i := 1) rfl
  have z2 := kz.1.cell (i := 2) rfl
  have zl := kz.1.lt
  unfold ptrV at z0 z1 z2
  replace hS := Lib.hid hS
  replace cc := Lib.hid cc
  replace kz := Lib.hid kz
  replace kx := Lib.hid kx
  replace hop := Lib.hid hop
  go_wp2_with fail
  refine hop.out.mono ?_
  rintro e w8 ⟨rfl, F7, pb, bb, hS', cS⟩
  replace kz := kz.out.chg cS
  replace cc := cc.out.trans cS
  replace kx := kx.out.chg cS
  replace hS := hS'
  clear hop z0 z1 z2 zl cS hS'
  have hop : Calls Tryz.prog 12 #[.pointer (some ⟨tb, 0, none⟩), .int .i64 3, .string ⟨#[97, 98]⟩] w8 fun e w' => e = .returned (.int .i64 0) ∧ ∃ F' b1, Sys w' F' (begunC fb plb tb) ⟨ndsA 1, [(bb, some b1)], 2, [hF1 1 3, hR2, hW3], [(pb, bb, 2)], 3, []⟩ ∧ Chg F7 F' w8 w' ∧ b1.all = [97, 98] ∧ b1.gone = 0 := by
    refine (sys_write_wr hS (x := ⟨1, .wr 0⟩) rfl rfl (p := 0) rfl (q := 0) (b := buf0) rfl ⟨#[97, 98]⟩ (show (2 : Nat) ≤ 500000 by decide)).mono ?_
    rintro e w' (⟨_, rfl, F', b', h1, h2, h3, h4⟩ | ⟨hx, _⟩)
    · exact ⟨rfl, F', b', h1, h2, h3, h4⟩
    · exact absurd hx (show ¬ (40 : Nat) < 2 by decide)
  have z0 := kz.1.cell (i := 0) rfl
  have z1 := kz.1.cell (i := 1) rfl
  have z2 := kz.1.cell (i := 2) rfl
  have zl := kz.1.lt
  unfold ptrV at z0 z1 z2
  replace hS := Lib.hid hS
  replace cc := Lib.hid cc
  replace kz := Lib.hid kz
  replace kx := Lib.hid kx
  replace hop := Lib.hid hop
  go_wp2_with fail
  refine hop.out.mono ?_
  rintro e w9 ⟨rfl, F8, b1, hS', cS, hb1, hg1⟩
  replace kz := kz.out.chg cS
  replace cc := cc.out.trans cS
  replace kx := kx.out.chg cS
  replace hS := hS'
  clear hop z0 z1 z2 zl cS hS'
  have hop : Calls Tryz.prog 14 #[.pointer (some ⟨tb, 0, none⟩), .int .i64 2, .int .i64 1] w9 fun e w' => e = .returned (.tuple #[.string ⟨#[97]⟩, .int .i64 0]) ∧ ∃ F' b2, Sys w' F' (begunC fb plb tb) ⟨ndsA 1, [(bb, some b2)], 2, [hF1 1 3, hR2, hW3], [(pb, bb, 2)], 3, []⟩ ∧ Chg F8 F' w9 w' ∧ b2.all = [97, 98] ∧ b2.gone = 1 := by
    have := sys_read_rd (k := 2) hS (x := ⟨1, .rd 0⟩) rfl rfl (p := 0) rfl (q := 0) (b := b1) rfl 1 (show (2 : Nat) ≤ 500000 by decide)
    rw [hb1, hg1] at this
    exact this
  have z0 := kz.1.cell (i := 0) rfl
  have z1 := kz.1.cell (i := 1) rfl
  have z2 := kz.1.cell (i := 2) rfl
  have zl := kz.1.lt
  unfold ptrV at z0 z1 z2
  replace hS := Lib.hid hS
  replace cc := Lib.hid cc
  replace kz := Lib.hid kz
  replace kx := Lib.hid kx
  replace hop := Lib.hid hop
  clear hb1 hg1
  go_wp2_with fail
  refine hop.out.mono ?_
  rintro e w10 ⟨rfl, F9, b2, hS', cS, hb2, hg2⟩
  replace kz := kz.out.chg cS
  replace cc := cc.out.trans cS
  replace kx := kx.out.chg cS
  replace hS := hS'
  clear hop z0 z1 z2 zl cS hS'
  have hop : Calls Tryz.prog 16 #[.pointer (some ⟨tb, 0, none⟩), .int .i64 3] w10 fun e w' => e = .returned (.int .i64 0) ∧ ∃ F' top' xs', Sys w' F' (begunC fb plb tb) (⟨ndsA 1, [(bb, some b2)], 2, [hF1 1 3, hR2], [(pb, bb, 1)], top', xs'⟩) ∧ Chg F9 F' w10 w' := sys_last_wr1 hS (x := ⟨1, .wr 0⟩) rfl rfl rfl (p := 0) rfl
  have z0 := kz.1.cell (i := 0) rfl
  have z1 := kz.1.cell (i := 1) rfl
  have z2 := kz.1.cell (i := 2) rfl
  have zl := kz.1.lt
  unfold ptrV at z0 z1 z2
  replace hS := Lib.hid hS
  replace cc := Lib.hid cc
  replace kz := Lib.hid kz
  replace kx := Lib.hid kx
  replace hop := Lib.hid hop
  go_wp2_with fail
  refine hop.out.mono ?_
  rintro e w11 ⟨rfl, F10, top3, xs3, hS', cS⟩
  replace kz := kz.out.chg cS
  replace cc := cc.out.trans cS
  replace kx := kx.out.chg cS
  replace hS := hS'
  clear hop z0 z1 z2 zl cS hS'
  have hbu : Calls Tryz.prog 18 #[.pointer (some ⟨plb, 0, none⟩)] w11 fun e w' => e = .returned (.int .i64 1) ∧ w' = w11 := by
    obtain ⟨_, _, _, hR, _⟩ := hS
    obtain ⟨_, hA⟩ := hR.pool.all
    exact all_buffers hA
  have z0 := kz.1.cell (i := 0) rfl
  have z1 := kz.1.cell (i := 1) rfl
  have z2 := kz.1.cell (i := 2) rfl
  have zl := kz.1.lt
  unfold ptrV at z0 z1 z2
  replace hS := Lib.hid hS
  replace cc := Lib.hid cc
  replace kz := Lib.hid kz
  replace kx := Lib.hid kx
  replace hbu := Lib.hid hbu
  go_wp2_with fail
  refine hbu.out.mono ?_
  rintro e w' ⟨rfl, hw⟩
  obtain rfl := hw.symm
  clear hbu hw z0 z1 z2 zl
  replace hS := hS.out
  replace cc := cc.out
  replace kz := kz.out
  replace kx := kx.out
  have hop : Calls Tryz.prog 16 #[.pointer (some ⟨tb, 0, none⟩), .int .i64 2] w11 fun e w' => e = .returned (.int .i64 0) ∧ ∃ F' top' xs', Sys w' F' (begunC fb plb tb) (⟨ndsA 1, [(bb, none)], 2, [hF1 1 3], [(pb, bb, 0)], top', xs'⟩) ∧ Chg F10 F' w11 w' := sys_last_rd0 hS (x := ⟨1, .rd 0⟩) rfl rfl rfl (p := 0) rfl (q := 0) (b := b2) rfl (show (2 : Nat) ≤ 500000 by decide) (show (1 : Nat) ≤ 1000000 by decide)
  have z0 := kz.1.cell (i := 0) rfl
  have z1 := kz.1.cell (i := 1) rfl
  have z2 := kz.1.cell (i := 2) rfl
  have zl := kz.1.lt
  unfold ptrV at z0 z1 z2
  replace hS := Lib.hid hS
  replace cc := Lib.hid cc
  replace kz := Lib.hid kz
  replace kx := Lib.hid kx
  replace hop := Lib.hid hop
  go_wp2_with fail
  refine hop.out.mono ?_
  rintro e w12 ⟨rfl, F11, top2, xs2, hS', cS⟩
  replace kz := kz.out.chg cS
  replace cc := cc.out.trans cS
  replace kx := kx.out.chg cS
  replace hS := hS'
  clear hop z0 z1 z2 zl cS hS'
  have hop : Calls Tryz.prog 16 #[.pointer (some ⟨tb, 0, none⟩), .int .i64 1] w12 fun e w' => e = .returned (.int .i64 0) ∧ ∃ F' top' xs', Sys w' F' (begunC fb plb tb) (⟨ndsA 0, [(bb, none)], 2, [], [(pb, bb, 0)], top', xs'⟩) ∧ Chg F11 F' w12 w' := sys_last_file hS (x := ⟨1, .file 2 3 true false false⟩) rfl rfl rfl (y := xyz 1) rfl (by decide) (by decide) (by decide)
  have z0 := kz.1.cell (i := 0) rfl
  have z1 := kz.1.cell (i := 1) rfl
  have z2 := kz.1.cell (i := 2) rfl
  have zl := kz.1.lt
  unfold ptrV at z0 z1 z2
  replace hS := Lib.hid hS
  replace cc := Lib.hid cc
  replace kz := Lib.hid kz
  replace kx := Lib.hid kx
  replace hop := Lib.hid hop
  go_wp2_with fail
  refine hop.out.mono ?_
  rintro e w13 ⟨rfl, F12, top1, xs1, hS', cS⟩
  replace kz := kz.out.chg cS
  replace cc := cc.out.trans cS
  replace kx := kx.out.chg cS
  replace hS := hS'
  clear hop z0 z1 z2 zl cS hS'
  have hbu : Calls Tryz.prog 18 #[.pointer (some ⟨plb, 0, none⟩)] w13 fun e w' => e = .returned (.int .i64 0) ∧ w' = w13 := by
    obtain ⟨_, _, _, hR, _⟩ := hS
    obtain ⟨_, hA⟩ := hR.pool.all
    exact all_buffers hA
  have hns : Calls Tryz.prog 19 #[.pointer (some ⟨fb, 0, none⟩), .int .i64 2] w13 fun e w' => e = .returned (.tuple #[.agg #[.int .i64 2, .int .i64 3, .int .i64 1, .int .i64 0], .int .i64 0]) ∧ w13.grownBy w' none := by
    obtain ⟨_, _, _, hR, _⟩ := hS
    obtain ⟨_, _, _, hT, _⟩ := hR.tree
    exact stat_some hT (x := xyz 0) rfl (by decide)
  have z0 := kz.1.cell (i := 0) rfl
  have z1 := kz.1.cell (i := 1) rfl
  have z2 := kz.1.cell (i := 2) rfl
  have zl := kz.1.lt
  unfold ptrV at z0 z1 z2
  replace hS := Lib.hid hS
  replace cc := Lib.hid cc
  replace kz := Lib.hid kz
  replace kx := Lib.hid kx
  replace hns := Lib.hid hns
  clear hbu
  go_wp2_with fail
  refine hns.out.mono ?_
  rintro e wT ⟨rfl, gT⟩
  replace kz := Lib.hid (kz.out.grown gT)
  replace kx := Lib.hid (kx.out.grown gT)
  replace cc := Lib.hid (cc.out.trans (Chg.of_grown gT _))
  replace hS := Lib.hid (hS.out.grown gT)
  clear hns z0 z1 z2 zl gT
  go_upto_region 18 with fail
  have gB : wT.grownBy (wT.alloc (.cells #[.int .i64 2, .int .i64 3, .int .i64 1, .int .i64 0] 55)) none := World.grownBy_alloc wT _ _
  have yb : Blk (wT.alloc (.cells #[.int .i64 2, .int .i64 3, .int .i64 1, .int .i64 0] 55)) wT.heap.size [.int .i64 2, .int .i64 3, .int .i64 1, .int .i64 0] 55 := Blk.new wT _ _
  generalize (wT.alloc (.cells #[.int .i64 2, .int .i64 3, .int .i64 1, .int .i64 0] 55)) = wU at gB yb ⊢
  generalize wT.heap.size = yz at yb ⊢
  have y3 := yb.cell (i := 3) rfl
  have yl := yb.lt
  replace kz := kz.out.grown gB
  replace kx := kx.out.grown gB
  replace cc := cc.out.trans (Chg.of_grown gB _)
  replace hS := hS.out.grown gB
  have x1 := kx.1.cell (i := 1) rfl
  have xl := kx.1.lt
  have hbu : Calls Tryz.prog 18 #[.pointer (some ⟨plb, 0, none⟩)] wU fun e w' => e = .returned (.int .i64 0) ∧ w' = wU := by
    obtain ⟨_, _, _, hR, _⟩ := hS
    obtain ⟨_, hA⟩ := hR.pool.all
    exact all_buffers hA
  have z0 := kz.1.cell (i := 0) rfl
  have z1 := kz.1.cell (i := 1) rfl
  have z2 := kz.1.cell (i := 2) rfl
  have zl := kz.1.lt
  unfold ptrV at z0 z1 z2
  have hfin := cc.none (fun _ _ h => h)
  replace hfin := Lib.hid hfin
  replace hbu := Lib.hid hbu
  clear kz kx cc hS gB yb
  go_wp2_with fail
  refine hbu.out.mono ?_
  rintro e w' ⟨rfl, hw⟩
  obtain rfl := hw.symm
  clear hbu hw
  go_wp2
  go_ret
  exact ⟨rfl, hfin.out⟩
end Go.Proofs.YtffipbmonfodbaaGreatDoor
