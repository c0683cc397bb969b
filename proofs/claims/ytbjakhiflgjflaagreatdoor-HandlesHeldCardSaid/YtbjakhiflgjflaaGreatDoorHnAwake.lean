/-
  The world that every statement of this stage begins in. Conditions: none.
  The chapter's example comes out as it should: awake answers true. Conditions: none.
-/
import Derived.Test.YtbjakhiflgjflaaGreatDoorHnOpen
import Derived.Test.YtbjakhiflgjflaaGreatDoorNdMake
import Derived.Test.YtbjakhiflgjflaaGreatDoorHnRef
import Derived.Test.YtbjakhiflgjflaaGreatDoorHnStat2
namespace Go.Proofs.YtbjakhiflgjflaaGreatDoor
open Go Go.RowKit Go.ChangeMaps

def rootN (l : List (ByteArray × Nat)) : Pn := { root0 with nms := some l }
def nl1 : List (ByteArray × Nat) := [(nm1 97, 2)]
def nl2 : List (ByteArray × Nat) := [(nm1 97, 2), (nm1 98, 3)]
def nl3 : List (ByteArray × Nat) := [(nm1 97, 2), (nm1 98, 3), (nm1 108, 4)]
def nl4 : List (ByteArray × Nat) := [(nm1 97, 2), (nm1 98, 3), (nm1 108, 4), (nm1 100, 5)]
def leafN (kd : Nat) (d : List UInt8) : Pn := ⟨kd, 1, 0, 0, d, none, ⟨#[]⟩⟩
def nds1 : Nds := [(1, rootN nl1), (2, leafN 2 [120, 121, 122])]
def nds2 : Nds := [(1, rootN nl2), (2, leafN 2 [120, 121, 122]), (3, leafN 2 [])]
def nds3 : Nds := [(1, rootN nl3), (2, leafN 2 [120, 121, 122]), (3, leafN 2 []), (4, leafN 3 [97])]
def nds4 : Nds := [(1, rootN nl4), (2, leafN 2 [120, 121, 122]), (3, leafN 2 []), (4, leafN 3 [97]), (5, ⟨1, 1, 0, 1, [], some [], nm1 100⟩)]
def begunC (fb plb tb : Nat) : Sy := ⟨fb, plb, tb, 8, 60, 40, 3, 4⟩
def begunS : St := ⟨nds4, [], 0, [], [], 0, []⟩

theorem made_1 : made [(1, root0)] root0 [] (nm1 97) 2 2 (tl ⟨#[120, 121, 122]⟩) = nds1 := by rfl
theorem made_2 : made nds1 (rootN nl1) nl1 (nm1 98) 3 2 (tl ⟨#[]⟩) = nds2 := by rfl
theorem made_3 : made nds2 (rootN nl2) nl2 (nm1 108) 4 3 (tl ⟨#[97]⟩) = nds3 := by rfl
theorem made_4 : made nds3 (rootN nl3) nl3 (nm1 100) 5 1 (tl ⟨#[]⟩) = nds4 := by rfl

theorem Chg.fresh {N : Nat → Prop} {w w' : World} (h : Chg (fun _ => False) N w w') (F : Nat → Prop) : Chg F (fun g => F g ∨ N g) w w' :=
  ⟨h.os, h.tape, h.output, h.size, fun b hb _ => h.block b hb nofun, fun b hb hf hx => hx.elim hf (h.foot b hb nofun)⟩
set_option maxHeartbeats 4000000 in
set_option maxRecDepth 100000 in
theorem begun_any (w : World) : Calls Tryz.prog 11 #[] w fun e w' => ∃ fb plb tb, e = .returned (.tuple #[.agg #[ptrV fb, ptrV plb, ptrV tb], .bool true]) ∧ ∃ F', Sys w' F' (begunC fb plb tb) begunS ∧ Chg (fun _ => False) F' w w' := by
  go_enter Tryz.func11, Tryz.ntmps11
  go_upto_region 1 with fail
  have zb : Blk (w.alloc (.cells #[.pointer none, .pointer none, .pointer none] 29)) w.heap.size [.pointer none, .pointer none, .pointer none] 29 := Blk.new w _ _
  have g1 : w.grownBy (w.alloc (.cells #[.pointer none, .pointer none, .pointer none] 29)) none := World.grownBy_alloc w _ _
  obtain ⟨z, hz⟩ : ∃ z, w.heap.size = z := ⟨_, rfl⟩
  generalize (w.alloc (.cells #[.pointer none, .pointer none, .pointer none] 29)) = w1 at zb g1 ⊢
  simp only [hz] at zb ⊢
  have c1 := Chg.of_grown g1 (fun _ => False)
  replace hz := Lib.hid hz
  replace g1 := Lib.hid g1
  have hzl := zb.lt
  replace zb := Lib.hid zb
  have hnn := nodes_New w1 8 60 (by decide) (by decide) (by decide)
  go_wp2_with fail
  refine hnn.mono ?_
  rintro e w2 ⟨fb, rfl, Ft, hT2, hC2⟩
  have c2 := c1.trans hC2
  have hsz2 := hC2.size
  have hsn := allF_new (w := w2) 40 3 4 (by decide) (by decide) (by decide) (by decide)
  replace hC2 := Lib.hid hC2
  replace hT2 := Lib.hid hT2
  clear hnn c1
  go_wp2_with fail
  refine hsn.mono ?_
  rintro e w3 ⟨rfl, ⟨Fp, hA3, hC3⟩, hs3⟩
  generalize w2.heap.size = plb at hA3 hsn hs3 ⊢
  have hT3 : TreeF w3 Ft fb 8 60 [(1, root0)] := hT2.out.keep hC3.size fun g hg => hC3.block g (hT2.out.lt hg) nofun
  have hd3 : ∀ g, Fp g → ¬ Ft g := fun g hg hf => hC3.foot g (hT2.out.lt hf) nofun hg
  have c3 : Chg (fun _ => False) (fun g => Ft g ∨ Fp g) w w3 := c2.trans (hC3.fresh Ft)
  have hzf : ¬ (Ft z ∨ Fp z) := fun h => h.elim (fun h => hC2.out.foot z hzl nofun h) fun h => hC3.foot z (by omega) nofun h
  have zb3 : Blk w3 z _ _ := (hC3.block z (by omega) nofun).trans ((hC2.out.block z hzl nofun).trans zb.out)
  have tc : Chg Ft Ft w3 w3 := Chg.refl _ _
  replace hT3 := Lib.hid hT3
  replace zb3 := Lib.hid zb3
  replace c3 := Lib.hid c3
  replace tc := Lib.hid tc
  replace hA3 := Lib.hid hA3
  replace hd3 := Lib.hid hd3
  replace hzf := Lib.hid hzf
  clear hsn hC3 hC2 hT2 c2 zb
  have hmk := make_leaf hT3.out (x := root0) (l := []) rfl rfl rfl rfl 97 (by decide) (by decide) (by decide) (by decide) 2 (by decide) (by decide) rfl (fun j h1 h2 => by obtain rfl : j = 1 := (by omega); exact ⟨_, rfl⟩) (by decide) 2 (by decide) ⟨#[120, 121, 122]⟩ (by decide) (by decide)
  rw [made_1] at hmk
  replace hmk := Lib.hid hmk
  go_wp2_with fail
  refine hmk.out.mono ?_
  rintro e w4 ⟨rfl, Ft4, hT4, hC4⟩
  replace tc := Lib.hid (tc.out.trans hC4)
  replace hT4 := Lib.hid hT4
  clear hmk hT3 hC4
  have hmk := make_leaf hT4.out (x := (rootN nl1)) (l := nl1) rfl rfl rfl rfl 98 (by decide) (by decide) (by decide) (by decide) 3 (by decide) (by decide) rfl (fun j h1 h2 => by rcases (by omega : j = 1 ∨ j = 2) with rfl | rfl <;> exact ⟨_, rfl⟩) (by decide) 2 (by decide) ⟨#[]⟩ (by decide) (by decide)
  rw [made_2] at hmk
  replace hmk := Lib.hid hmk
  go_wp2_with fail
  refine hmk.out.mono ?_
  rintro e w5 ⟨rfl, Ft5, hT5, hC5⟩
  replace tc := Lib.hid (tc.out.trans hC5)
  replace hT5 := Lib.hid hT5
  clear hmk hT4 hC5
  have hmk := make_leaf hT5.out (x := (rootN nl2)) (l := nl2) rfl rfl rfl rfl 108 (by decide) (by decide) (by decide) (by decide) 4 (by decide) (by decide) rfl (fun j h1 h2 => by rcases (by omega : j = 1 ∨ j = 2 ∨ j = 3) with rfl | rfl | rfl <;> exact ⟨_, rfl⟩) (by decide) 3 (by decide) ⟨#[97]⟩ (by decide) (by decide)
  rw [made_3] at hmk
  replace hmk := Lib.hid hmk
  go_wp2_with fail
  refine hmk.out.mono ?_
  rintro e w6 ⟨rfl, Ft6, hT6, hC6⟩
  replace tc := Lib.hid (tc.out.trans hC6)
  replace hT6 := Lib.hid hT6
  clear hmk hT5 hC6
  have hmk := make_dir hT6.out (x := rootN nl3) (l := nl3) rfl rfl rfl rfl 100 (by decide) (by decide) (by decide) (by decide) 5 (by decide) (by decide) rfl (fun j h1 h2 => by rcases (by omega : j = 1 ∨ j = 2 ∨ j = 3 ∨ j = 4) with rfl | rfl | rfl | rfl <;> exact ⟨_, rfl⟩) (by decide)
  rw [show made nds3 (rootN nl3) nl3 (nm1 100) 5 1 [] = nds4 from made_4] at hmk
  replace hmk := Lib.hid hmk
  go_wp2_with fail
  refine hmk.out.mono ?_
  rintro e w7 ⟨rfl, Ft7, hT7, hC7⟩
  replace tc := tc.out.trans hC7
  clear hmk hT6 hC7
  have hA7 := hA3.out.keep tc.size fun g hg => tc.block g (hA3.out.lt hg) (hd3.out g hg)
  have hd7 : ∀ g, Ft7 g → ¬ Fp g := fun g hg hp => tc.foot g (hA3.out.lt hp) (hd3.out g hp) hg
  have c7 : Chg (fun _ => False) (fun g => Ft7 g ∨ Fp g) w w7 := c3.out.trans (tc.wide Fp)
  have hzf7 : ¬ (Ft7 z ∨ Fp z) := fun h => h.elim (fun h => tc.foot z zb3.out.lt (fun h => hzf.out (.inl h)) h) fun h => hzf.out (.inr h)
  have zb7 : Blk w7 z _ _ := (tc.block z zb3.out.lt fun h => hzf.out (.inl h)).trans zb3.out
  have hzl7 := zb7.lt
  have htn := tab_New w7 fb plb
  unfold ptrV at htn
  replace hA7 := Lib.hid hA7
  replace hT7 := Lib.hid hT7
  replace hd7 := Lib.hid hd7
  replace c7 := Lib.hid c7
  replace hzf7 := Lib.hid hzf7
  replace zb7 := Lib.hid zb7
  clear hA3 hd3 c3 hzf zb3 tc
  go_wp2_with fail
  refine htn.mono ?_
  rintro e w8 ⟨tb, rfl, Fh, hH8, hC8⟩
  have hR8 : SysR w8 Ft7 Fp Fh (begunC fb plb tb) begunS := ⟨hT7.out.keep hC8.size fun g hg => hC8.block g (hT7.out.lt hg) nofun, hA7.out.keep hC8.size fun g hg => hC8.block g (hA7.out.lt hg) nofun, hH8, hd7.out, fun g hg hh => hC8.foot g (hT7.out.lt hg) nofun hh, fun g hg hh => hC8.foot g (hA7.out.lt hg) nofun hh⟩
  have c8 : Chg (fun _ => False) (foot Ft7 Fp Fh) w w8 := (c7.out.trans (hC8.fresh (fun g => Ft7 g ∨ Fp g))).mono (fun _ h => h) fun b _ hb => .inl (by
    rcases hb with hb | hb | hb
    · exact .inl (.inl hb)
    · exact .inl (.inr hb)
    · exact .inr hb)
  have hzf8 : ¬ foot Ft7 Fp Fh z := fun h => by
    rcases h with h | h | h
    · exact hzf7.out (.inl h)
    · exact hzf7.out (.inr h)
    · exact hC8.foot z hzl7 nofun h
  have zb8 : Blk w8 z [.pointer none, .pointer none, .pointer none] 29 := (hC8.block z hzl7 nofun).trans zb7.out
  have z0 := zb8.cell (i := 0) rfl
  have z1 := zb8.cell (i := 1) rfl
  have z2 := zb8.cell (i := 2) rfl
  have f0 := zb8.frozen 0
  have f1 := zb8.frozen 1
  have f2 := zb8.frozen 2
  have hzl8 := zb8.lt
  replace zb8 := Lib.hid zb8
  replace hR8 := Lib.hid hR8
  replace c8 := Lib.hid c8
  replace hzf8 := Lib.hid hzf8
  clear htn hC8 hH8 hA7 hT7 hd7 c7 hzf7 zb7
  go_wp2
  have b9 := ((zb8.out.set 0 (ptrV fb)).set 1 (ptrV plb)).set 2 (ptrV tb)
  have c9 : Chg (fun g => g = z) (fun g => g = z) w8 (((w8.setCell ⟨z, 0, none⟩ (ptrV fb)).setCell ⟨z, 1, none⟩ (ptrV plb)).setCell ⟨z, 2, none⟩ (ptrV tb)) := ((Chg.set (F := fun g => g = z) rfl 0 _).trans (Chg.set (F := fun g => g = z) rfl 1 _)).trans (Chg.set (F := fun g => g = z) rfl 2 _)
  unfold ptrV at b9 c9
  generalize ((w8.setCell ⟨z, 0, none⟩ (.pointer (some ⟨fb, 0, none⟩))).setCell ⟨z, 1, none⟩ (.pointer (some ⟨plb, 0, none⟩))).setCell ⟨z, 2, none⟩ (.pointer (some ⟨tb, 0, none⟩)) = w9 at b9 c9 ⊢
  have hR9 := hR8.out.keep c9.size fun g hg => c9.block g (hR8.out.lt hg) fun e => hzf8.out (by rw [← show g = z from e]; exact hg)
  have c10 : Chg (fun _ => False) (foot Ft7 Fp Fh) w w9 := by
    have hzw := hz.out
    exact ⟨c9.os.trans c8.out.os, c9.tape.trans c8.out.tape, c9.output.trans c8.out.output, Nat.le_trans c8.out.size c9.size, fun b hb hf => (c9.block b (Nat.lt_of_lt_of_le hb c8.out.size) (by omega)).trans (c8.out.block b hb hf), c8.out.foot⟩
  have e0 := b9.cell (i := 0) rfl
  have e1 := b9.cell (i := 1) rfl
  have e2 := b9.cell (i := 2) rfl
  exact bodyPost_ret (v := .tuple #[.agg #[ptrV fb, ptrV plb, ptrV tb], .bool true]) (by simp [results, Tryz.results11, go_sem, e0, e1, e2, ptrV]) rfl ⟨fb, plb, tb, rfl, _, ⟨Ft7, Fp, Fh, hR9, fun _ => Iff.rfl⟩, c10⟩
end Go.Proofs.YtbjakhiflgjflaaGreatDoor

namespace Go.Proofs.YtbjakhiflgjflaaGreatDoor
open Go Go.RowKit Go.ChangeMaps

def ndsA (h : Nat) : Nds := [(1, rootN nl4), (2, ⟨2, 1, h, 0, [120, 121, 122], none, ⟨#[]⟩⟩), (3, leafN 2 []), (4, leafN 3 [97]), (5, ⟨1, 1, 0, 1, [], some [], nm1 100⟩)]
def xyz (h : Nat) : Pn := ⟨2, 1, h, 0, [120, 121, 122], none, ⟨#[]⟩⟩
abbrev hF1 (r a : Nat) : Int × Hd := (1, ⟨r, .file 2 a true false false⟩)
abbrev hR2 : Int × Hd := (2, ⟨1, .rd 0⟩)
abbrev hW3 : Int × Hd := (3, ⟨1, .wr 0⟩)
abbrev buf0 : Bs := ⟨[], 0, 3, .slice none 0 0, .slice none 0 0, []⟩

/-- A block of the caller's, apart from all. -/
def Kp (w : World) (F : Nat → Prop) (z : Nat) (C : List Value) (t : TypeId) : Prop := Blk w z C t ∧ ¬ F z
theorem Kp.chg {w w' : World} {F F' : Nat → Prop} {z : Nat} {C : List Value} {t : TypeId} (h : Kp w F z C t) (c : Chg F F' w w') : Kp w' F' z C t := ⟨h.1.chg c h.2, c.foot z h.1.lt h.2⟩
theorem Kp.grown {w w' : World} {F : Nat → Prop} {z : Nat} {C : List Value} {t : TypeId} (h : Kp w F z C t) (c : w.grownBy w' none) : Kp w' F z C t := h.chg (Chg.of_grown c F)

set_option maxHeartbeats 4000000 in
set_option maxRecDepth 100000 in
theorem awake_any (w : World) : Calls Tryz.prog 10 #[] w fun e w' => e = .returned (.bool true) ∧ w.grownBy w' none := by
  have hbg := begun_any w
  go_enter Tryz.func10, Tryz.ntmps10
  go_wp2_with fail
  refine hbg.mono ?_
  rintro e w0 ⟨fb, plb, tb, rfl, F0, hS0, cc0⟩
  clear hbg
  unfold ptrV
  go_upto_region 2 with fail
  obtain ⟨z, hz⟩ : ∃ z, w0.heap.size = z := ⟨_, rfl⟩
  have gA : w0.grownBy (w0.alloc (.cells #[.pointer (some ⟨fb, 0, none⟩), .pointer (some ⟨plb, 0, none⟩), .pointer (some ⟨tb, 0, none⟩)] 29)) none := World.grownBy_alloc w0 _ _
  have zb : Blk (w0.alloc (.cells #[.pointer (some ⟨fb, 0, none⟩), .pointer (some ⟨plb, 0, none⟩), .pointer (some ⟨tb, 0, none⟩)] 29)) w0.heap.size [ptrV fb, ptrV plb, ptrV tb] 29 := Blk.new w0 _ _
  have hzF : ¬ F0 z := fun h => absurd (hS0.lt h) (by omega)
  generalize (w0.alloc (.cells #[.pointer (some ⟨fb, 0, none⟩), .pointer (some ⟨plb, 0, none⟩), .pointer (some ⟨tb, 0, none⟩)] 29)) = w1 at gA zb ⊢
  simp only [hz] at zb ⊢
  have kz : Kp w1 F0 z [ptrV fb, ptrV plb, ptrV tb] 29 := ⟨zb, hzF⟩
  have hS : Sys w1 F0 (begunC fb plb tb) begunS := hS0.grown gA
  have cc : Chg (fun _ => False) F0 w w1 := cc0.trans (Chg.of_grown gA F0)
  clear hS0 cc0 gA zb hzF hz
  have hop : Calls Tryz.prog 38 #[.pointer (some ⟨tb, 0, none⟩), .int .i64 2, .agg #[.bool true, .bool false, .bool false]] w1 fun e w' => e = .returned (.tuple #[.int .i64 1, .int .i64 0]) ∧ ∃ F', Sys w' F' (begunC fb plb tb) (⟨ndsA 1, [], 0, [hF1 1 0], [], 1, []⟩) ∧ Chg F0 F' w1 w' := sys_File_r hS rfl (by decide) (y := leafN 2 [120, 121, 122]) rfl rfl (by decide) (by decide) false
  have z0 := kz.1.cell (i := 0) rfl
  have z1 := kz.1.cell (i := 1) rfl
  have z2 := kz.1.cell (i := 2) rfl
  have zl := kz.1.lt
  unfold ptrV at z0 z1 z2
  replace hS := Lib.hid hS
  replace cc := Lib.hid cc
  replace kz := Lib.hid kz
  replace hop := Lib.hid hop
  go_wp2_with fail
  refine hop.out.mono ?_
  rintro e w2 ⟨rfl, F1, hS', cS⟩
  replace kz := kz.out.chg cS
  replace cc := cc.out.trans cS
  replace hS := hS'
  clear hop z0 z1 z2 zl cS hS'
  have hop : Calls Tryz.prog 39 #[.pointer (some ⟨tb, 0, none⟩), .int .i64 1] w2 fun e w' => e = .returned (.int .i64 0) ∧ ∃ F', Sys w' F' (begunC fb plb tb) (⟨ndsA 1, [], 0, [hF1 2 0], [], 1, []⟩) ∧ Chg F1 F' w2 w' := sys_Ref hS (x := ⟨1, .file 2 0 true false false⟩) rfl (by decide)
  have z0 := kz.1.cell (i := 0) rfl
  have z1 := kz.1.cell (i := 1) rfl
  have z2 := kz.1.cell (i := 2) rfl
  have zl := kz.1.lt
  unfold ptrV at z0 z1 z2
  replace hS := Lib.hid hS
  replace cc := Lib.hid cc
  replace kz := Lib.hid kz
  replace hop := Lib.hid hop
  go_wp2_with fail
  refine hop.out.mono ?_
  rintro e w3 ⟨rfl, F2, hS', cS⟩
  replace kz := kz.out.chg cS
  replace cc := cc.out.trans cS
  replace hS := hS'
  clear hop z0 z1 z2 zl cS hS'
  have hop : Calls Tryz.prog 40 #[.pointer (some ⟨tb, 0, none⟩), .int .i64 1, .int .i64 2] w3 fun e w' => e = .returned (.tuple #[.string ⟨#[120, 121]⟩, .int .i64 0]) ∧ ∃ F', Sys w' F' (begunC fb plb tb) (⟨ndsA 1, [], 0, [hF1 2 2], [], 1, []⟩) ∧ Chg F2 F' w3 w' := sys_read_file hS (x := ⟨2, .file 2 0 true false false⟩) rfl rfl (y := xyz 1) rfl (by decide) (by decide) 2 (by decide) (by decide)
  have z0 := kz.1.cell (i := 0) rfl
  have z1 := kz.1.cell (i := 1) rfl
  have z2 := kz.1.cell (i := 2) rfl
  have zl := kz.1.lt
  unfold ptrV at z0 z1 z2
  replace hS := Lib.hid hS
  replace cc := Lib.hid cc
  replace kz := Lib.hid kz
  replace hop := Lib.hid hop
  go_wp2_with fail
  refine hop.out.mono ?_
  rintro e w4 ⟨rfl, F3, hS', cS⟩
  replace kz := kz.out.chg cS
  replace cc := cc.out.trans cS
  replace hS := hS'
  clear hop z0 z1 z2 zl cS hS'
  have hop : Calls Tryz.prog 20 #[.pointer (some ⟨tb, 0, none⟩), .int .i64 1] w4 fun e w' => e = .returned (.int .i64 0) ∧ ∃ F', Sys w' F' (begunC fb plb tb) (⟨ndsA 1, [], 0, [hF1 1 2], [], 1, []⟩) ∧ Chg F3 F' w4 w' := sys_Unref hS (x := ⟨2, .file 2 2 true false false⟩) rfl (r := 0) rfl (by decide)
  have z0 := kz.1.cell (i := 0) rfl
  have z1 := kz.1.cell (i := 1) rfl
  have z2 := kz.1.cell (i := 2) rfl
  have zl := kz.1.lt
  unfold ptrV at z0 z1 z2
  replace hS := Lib.hid hS
  replace cc := Lib.hid cc
  replace kz := Lib.hid kz
  replace hop := Lib.hid hop
  go_wp2_with fail
  refine hop.out.mono ?_
  rintro e w5 ⟨rfl, F4, hS', cS⟩
  replace kz := kz.out.chg cS
  replace cc := cc.out.trans cS
  replace hS := hS'
  clear hop z0 z1 z2 zl cS hS'
  have hst : Calls Tryz.prog 17 #[.pointer (some ⟨tb, 0, none⟩), .int .i64 1] w5 fun e w' => e = .returned (.tuple #[info7 1 1 2 2 true false false, .int .i64 0]) ∧ w5.grownBy w' none := sys_stat_file hS (x := ⟨1, .file 2 2 true false false⟩) rfl rfl
  have z0 := kz.1.cell (i := 0) rfl
  have z1 := kz.1.cell (i := 1) rfl
  have z2 := kz.1.cell (i := 2) rfl
  have zl := kz.1.lt
  unfold ptrV at z0 z1 z2
  replace hS := Lib.hid hS
  replace cc := Lib.hid cc
  replace kz := Lib.hid kz
  replace hst := Lib.hid hst
  unfold info7 at hst
  go_wp2_with fail
  refine hst.out.mono ?_
  rintro e wS ⟨rfl, gS⟩
  replace kz := Lib.hid (kz.out.grown gS)
  replace cc := Lib.hid (cc.out.trans (Chg.of_grown gS _))
  replace hS := Lib.hid (hS.out.grown gS)
  clear hst z0 z1 z2 zl gS
  go_upto_region 9 with fail
  obtain ⟨xz, hxz⟩ : ∃ z, wS.heap.size = z := ⟨_, rfl⟩
  have gB : wS.grownBy (wS.alloc (.cells #[.int .i64 1, .int .i64 1, .int .i64 2, .int .i64 2, .bool true, .bool false, .bool false] 46)) none := World.grownBy_alloc wS _ _
  have xb : Blk (wS.alloc (.cells #[.int .i64 1, .int .i64 1, .int .i64 2, .int .i64 2, .bool true, .bool false, .bool false] 46)) wS.heap.size [.int .i64 1, .int .i64 1, .int .i64 2, .int .i64 2, .bool true, .bool false, .bool false] 46 := Blk.new wS _ _
  have hxF : ¬ F4 xz := fun h => absurd (hS.out.lt h) (by omega)
  generalize (wS.alloc (.cells #[.int .i64 1, .int .i64 1, .int .i64 2, .int .i64 2, .bool true, .bool false, .bool false] 46)) = w6 at gB xb ⊢
  simp only [hxz] at xb ⊢
  have kx : Kp w6 F4 xz [.int .i64 1, .int .i64 1, .int .i64 2, .int .i64 2, .bool true, .bool false, .bool false] 46 := ⟨xb, hxF⟩
  replace kz := kz.out.grown gB
  replace cc := cc.out.trans (Chg.of_grown gB _)
  replace hS := hS.out.grown gB
  clear gB xb hxF hxz
  obtain ⟨F5, hFe⟩ : ∃ F, F = F4 := ⟨_, rfl⟩
  rw [← hFe] at kz cc hS kx
  clear hFe
  have hop : Calls Tryz.prog 40 #[.pointer (some ⟨tb, 0, none⟩), .int .i64 1, .int .i64 9] w6 fun e w' => e = .returned (.tuple #[.string ⟨#[122]⟩, .int .i64 0]) ∧ ∃ F', Sys w' F' (begunC fb plb tb) (⟨ndsA 1, [], 0, [hF1 1 3], [], 1, []⟩) ∧ Chg F5 F' w6 w' := sys_read_file hS (x := ⟨1, .file 2 2 true false false⟩) rfl rfl (y := xyz 1) rfl (by decide) (by decide) 9 (by decide) (by decide)
  have z0 := kz.1.cell (i := 0) rfl
  have z1 := kz.1.cell (i := 1) rfl
  have z2 := kz.1.cell (i := 2) rfl
  have zl := kz.1.lt
  unfold ptrV at z0 z1 z2
  replace hS := Lib.hid hS
  replace cc := Lib.hid cc
  replace kz := Lib.hid kz
  replace kx := Lib.hid kx
  replace hop := Lib.hid hop
  go_wp2_with fail
  refine hop.out.mono ?_
  rintro e w7 ⟨rfl, F6, hS', cS⟩
  replace kz := kz.out.chg cS
  replace cc := cc.out.trans cS
  replace kx := kx.out.chg cS
  replace hS := hS'
  clear hop z0 z1 z2 zl cS hS'
  have hop : Calls Tryz.prog 41 #[.pointer (some ⟨tb, 0, none⟩)] w7 fun e w' => e = .returned (.tuple #[.int .i64 2, .int .i64 3, .int .i64 0]) ∧ ∃ F' pb bb, Sys w' F' (begunC fb plb tb) ⟨ndsA 1, [(bb, some buf0)], 0, [hF1 1 3, hR2, hW3], [(pb, bb, 2)], 3, []⟩ ∧ Chg F6 F' w7 w' := sys_Pipe hS rfl (by decide) (by decide)
  have z0 := kz.1.cell (i := 0) rfl
  have z1 := kz.1.cell (i := 1) rfl
  have z2 := kz.1.cell (i := 2) rfl
  have zl := kz.1.lt
  unfold ptrV at z0 z1 z2
  replace hS := Lib.hid hS
  replace cc := Lib.hid cc
  replace kz := Lib.hid kz
  replace kx := Lib.hid kx
  replace hop := Lib.hid hop
  go_wp2_with fail
  refine hop.out.mono ?_
  rintro e w8 ⟨rfl, F7, pb, bb, hS', cS⟩
  replace kz := kz.out.chg cS
  replace cc := cc.out.trans cS
  replace kx := kx.out.chg cS
  replace hS := hS'
  clear hop z0 z1 z2 zl cS hS'
  have hop : Calls Tryz.prog 42 #[.pointer (some ⟨tb, 0, none⟩), .int .i64 3, .string ⟨#[97, 98]⟩] w8 fun e w' => e = .returned (.int .i64 0) ∧ ∃ F' b1, Sys w' F' (begunC fb plb tb) ⟨ndsA 1, [(bb, some b1)], 2, [hF1 1 3, hR2, hW3], [(pb, bb, 2)], 3, []⟩ ∧ Chg F7 F' w8 w' ∧ b1.all = [97, 98] ∧ b1.gone = 0 := by
    refine (sys_write_wr hS (x := ⟨1, .wr 0⟩) rfl rfl (p := 0) rfl (q := 0) (b := buf0) rfl ⟨#[97, 98]⟩ (show (2 : Nat) ≤ 500000 by decide)).mono ?_
    rintro e w' (⟨_, rfl, F', b', h1, h2, h3, h4⟩ | ⟨hx, _⟩)
    · exact ⟨rfl, F', b', h1, h2, h3, h4⟩
    · exact absurd hx (show ¬ (40 : Nat) < 2 by decide)
  have z0 := kz.1.cell (i := 0) rfl
  have z1 := kz.1.cell (i := 1) rfl
  have z2 := kz.1.cell (i := 2) rfl
  have zl := kz.1.lt
  unfold ptrV at z0 z1 z2
  replace hS := Lib.hid hS
  replace cc := Lib.hid cc
  replace kz := Lib.hid kz
  replace kx := Lib.hid kx
  replace hop := Lib.hid hop
  go_wp2_with fail
  refine hop.out.mono ?_
  rintro e w9 ⟨rfl, F8, b1, hS', cS, hb1, hg1⟩
  replace kz := kz.out.chg cS
  replace cc := cc.out.trans cS
  replace kx := kx.out.chg cS
  replace hS := hS'
  clear hop z0 z1 z2 zl cS hS'
  have hop : Calls Tryz.prog 40 #[.pointer (some ⟨tb, 0, none⟩), .int .i64 2, .int .i64 1] w9 fun e w' => e = .returned (.tuple #[.string ⟨#[97]⟩, .int .i64 0]) ∧ ∃ F' b2, Sys w' F' (begunC fb plb tb) ⟨ndsA 1, [(bb, some b2)], 2, [hF1 1 3, hR2, hW3], [(pb, bb, 2)], 3, []⟩ ∧ Chg F8 F' w9 w' ∧ b2.all = [97, 98] ∧ b2.gone = 1 := by
    have := sys_read_rd (k := 2) hS (x := ⟨1, .rd 0⟩) rfl rfl (p := 0) rfl (q := 0) (b := b1) rfl 1 (show (2 : Nat) ≤ 500000 by decide)
    rw [hb1, hg1] at this
    exact this
  have z0 := kz.1.cell (i := 0) rfl
  have z1 := kz.1.cell (i := 1) rfl
  have z2 := kz.1.cell (i := 2) rfl
  have zl := kz.1.lt
  unfold ptrV at z0 z1 z2
  replace hS := Lib.hid hS
  replace cc := Lib.hid cc
  replace kz := Lib.hid kz
  replace kx := Lib.hid kx
  replace hop := Lib.hid hop
  clear hb1 hg1
  go_wp2_with fail
  refine hop.out.mono ?_
  rintro e w10 ⟨rfl, F9, b2, hS', cS, hb2, hg2⟩
  replace kz := kz.out.chg cS
  replace cc := cc.out.trans cS
  replace kx := kx.out.chg cS
  replace hS := hS'
  clear hop z0 z1 z2 zl cS hS'
  have hop : Calls Tryz.prog 20 #[.pointer (some ⟨tb, 0, none⟩), .int .i64 3] w10 fun e w' => e = .returned (.int .i64 0) ∧ ∃ F' top' xs', Sys w' F' (begunC fb plb tb) (⟨ndsA 1, [(bb, some b2)], 2, [hF1 1 3, hR2], [(pb, bb, 1)], top', xs'⟩) ∧ Chg F9 F' w10 w' := sys_last_wr1 hS (x := ⟨1, .wr 0⟩) rfl rfl rfl (p := 0) rfl
  have z0 := kz.1.cell (i := 0) rfl
  have z1 := kz.1.cell (i := 1) rfl
  have z2 := kz.1.cell (i := 2) rfl
  have zl := kz.1.lt
  unfold ptrV at z0 z1 z2
  replace hS := Lib.hid hS
  replace cc := Lib.hid cc
  replace kz := Lib.hid kz
  replace kx := Lib.hid kx
  replace hop := Lib.hid hop
  go_wp2_with fail
  refine hop.out.mono ?_
  rintro e w11 ⟨rfl, F10, top3, xs3, hS', cS⟩
  replace kz := kz.out.chg cS
  replace cc := cc.out.trans cS
  replace kx := kx.out.chg cS
  replace hS := hS'
  clear hop z0 z1 z2 zl cS hS'
  have hbu : Calls Tryz.prog 19 #[.pointer (some ⟨plb, 0, none⟩)] w11 fun e w' => e = .returned (.int .i64 1) ∧ w' = w11 := by
    obtain ⟨_, _, _, hR, _⟩ := hS
    obtain ⟨_, hA⟩ := hR.pool.all
    exact all_buffers hA
  have z0 := kz.1.cell (i := 0) rfl
  have z1 := kz.1.cell (i := 1) rfl
  have z2 := kz.1.cell (i := 2) rfl
  have zl := kz.1.lt
  unfold ptrV at z0 z1 z2
  replace hS := Lib.hid hS
  replace cc := Lib.hid cc
  replace kz := Lib.hid kz
  replace kx := Lib.hid kx
  replace hbu := Lib.hid hbu
  go_wp2_with fail
  refine hbu.out.mono ?_
  rintro e w' ⟨rfl, hw⟩
  obtain rfl := hw.symm
  clear hbu hw z0 z1 z2 zl
  replace hS := hS.out
  replace cc := cc.out
  replace kz := kz.out
  replace kx := kx.out
  have hop : Calls Tryz.prog 20 #[.pointer (some ⟨tb, 0, none⟩), .int .i64 2] w11 fun e w' => e = .returned (.int .i64 0) ∧ ∃ F' top' xs', Sys w' F' (begunC fb plb tb) (⟨ndsA 1, [(bb, none)], 2, [hF1 1 3], [(pb, bb, 0)], top', xs'⟩) ∧ Chg F10 F' w11 w' := sys_last_rd0 hS (x := ⟨1, .rd 0⟩) rfl rfl rfl (p := 0) rfl (q := 0) (b := b2) rfl (show (2 : Nat) ≤ 500000 by decide) (show (1 : Nat) ≤ 1000000 by decide)
  have z0 := kz.1.cell (i := 0) rfl
  have z1 := kz.1.cell (i := 1) rfl
  have z2 := kz.1.cell (i := 2) rfl
  have zl := kz.1.lt
  unfold ptrV at z0 z1 z2
  replace hS := Lib.hid hS
  replace cc := Lib.hid cc
  replace kz := Lib.hid kz
  replace kx := Lib.hid kx
  replace hop := Lib.hid hop
  go_wp2_with fail
  refine hop.out.mono ?_
  rintro e w12 ⟨rfl, F11, top2, xs2, hS', cS⟩
  replace kz := kz.out.chg cS
  replace cc := cc.out.trans cS
  replace kx := kx.out.chg cS
  replace hS := hS'
  clear hop z0 z1 z2 zl cS hS'
  have hop : Calls Tryz.prog 20 #[.pointer (some ⟨tb, 0, none⟩), .int .i64 1] w12 fun e w' => e = .returned (.int .i64 0) ∧ ∃ F' top' xs', Sys w' F' (begunC fb plb tb) (⟨ndsA 0, [(bb, none)], 2, [], [(pb, bb, 0)], top', xs'⟩) ∧ Chg F11 F' w12 w' := sys_last_file hS (x := ⟨1, .file 2 3 true false false⟩) rfl rfl rfl (y := xyz 1) rfl (by decide) (by decide) (by decide)
  have z0 := kz.1.cell (i := 0) rfl
  have z1 := kz.1.cell (i := 1) rfl
  have z2 := kz.1.cell (i := 2) rfl
  have zl := kz.1.lt
  unfold ptrV at z0 z1 z2
  replace hS := Lib.hid hS
  replace cc := Lib.hid cc
  replace kz := Lib.hid kz
  replace kx := Lib.hid kx
  replace hop := Lib.hid hop
  go_wp2_with fail
  refine hop.out.mono ?_
  rintro e w13 ⟨rfl, F12, top1, xs1, hS', cS⟩
  replace kz := kz.out.chg cS
  replace cc := cc.out.trans cS
  replace kx := kx.out.chg cS
  replace hS := hS'
  clear hop z0 z1 z2 zl cS hS'
  have hbu : Calls Tryz.prog 19 #[.pointer (some ⟨plb, 0, none⟩)] w13 fun e w' => e = .returned (.int .i64 0) ∧ w' = w13 := by
    obtain ⟨_, _, _, hR, _⟩ := hS
    obtain ⟨_, hA⟩ := hR.pool.all
    exact all_buffers hA
  have hns : Calls Tryz.prog 18 #[.pointer (some ⟨fb, 0, none⟩), .int .i64 2] w13 fun e w' => e = .returned (.tuple #[.agg #[.int .i64 2, .int .i64 3, .int .i64 1, .int .i64 0], .int .i64 0]) ∧ w13.grownBy w' none := by
    obtain ⟨_, _, _, hR, _⟩ := hS
    obtain ⟨_, _, _, hT, _⟩ := hR.tree
    exact stat_some hT (x := xyz 0) rfl (by decide)
  have z0 := kz.1.cell (i := 0) rfl
  have z1 := kz.1.cell (i := 1) rfl
  have z2 := kz.1.cell (i := 2) rfl
  have zl := kz.1.lt
  unfold ptrV at z0 z1 z2
  replace hS := Lib.hid hS
  replace cc := Lib.hid cc
  replace kz := Lib.hid kz
  replace kx := Lib.hid kx
  replace hns := Lib.hid hns
  clear hbu
  go_wp2_with fail
  refine hns.out.mono ?_
  rintro e wT ⟨rfl, gT⟩
  replace kz := Lib.hid (kz.out.grown gT)
  replace kx := Lib.hid (kx.out.grown gT)
  replace cc := Lib.hid (cc.out.trans (Chg.of_grown gT _))
  replace hS := Lib.hid (hS.out.grown gT)
  clear hns z0 z1 z2 zl gT
  go_upto_region 18 with fail
  have gB : wT.grownBy (wT.alloc (.cells #[.int .i64 2, .int .i64 3, .int .i64 1, .int .i64 0] 50)) none := World.grownBy_alloc wT _ _
  have yb : Blk (wT.alloc (.cells #[.int .i64 2, .int .i64 3, .int .i64 1, .int .i64 0] 50)) wT.heap.size [.int .i64 2, .int .i64 3, .int .i64 1, .int .i64 0] 50 := Blk.new wT _ _
  generalize (wT.alloc (.cells #[.int .i64 2, .int .i64 3, .int .i64 1, .int .i64 0] 50)) = wU at gB yb ⊢
  generalize wT.heap.size = yz at yb ⊢
  have y3 := yb.cell (i := 3) rfl
  have yl := yb.lt
  replace kz := kz.out.grown gB
  replace kx := kx.out.grown gB
  replace cc := cc.out.trans (Chg.of_grown gB _)
  replace hS := hS.out.grown gB
  have x1 := kx.1.cell (i := 1) rfl
  have xl := kx.1.lt
  have hbu : Calls Tryz.prog 19 #[.pointer (some ⟨plb, 0, none⟩)] wU fun e w' => e = .returned (.int .i64 0) ∧ w' = wU := by
    obtain ⟨_, _, _, hR, _⟩ := hS
    obtain ⟨_, hA⟩ := hR.pool.all
    exact all_buffers hA
  have z0 := kz.1.cell (i := 0) rfl
  have z1 := kz.1.cell (i := 1) rfl
  have z2 := kz.1.cell (i := 2) rfl
  have zl := kz.1.lt
  unfold ptrV at z0 z1 z2
  have hfin := cc.none (fun _ _ h => h)
  replace hfin := Lib.hid hfin
  replace hbu := Lib.hid hbu
  clear kz kx cc hS gB yb
  go_wp2_with fail
  refine hbu.out.mono ?_
  rintro e w' ⟨rfl, hw⟩
  obtain rfl := hw.symm
  clear hbu hw
  go_wp2
  go_ret
  exact ⟨rfl, hfin.out⟩
end Go.Proofs.YtbjakhiflgjflaaGreatDoor
