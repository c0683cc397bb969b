/-
  The world that every statement of this stage begins in. Conditions: none.
-/
import Derived.Test.YtffipbmonfodbaaGreatDoorHnOpen
import Derived.Test.YtffipbmonfodbaaGreatDoorNdMake
import Derived.Test.YtffipbmonfodbaaGreatDoorNdMk
namespace Go.Proofs.YtffipbmonfodbaaGreatDoor
open Go Go.RowKit Go.ChangeMaps

def rootN (l : List (ByteArray × Nat)) : Pn := { root0 with nms := some l }
def nl1 : List (ByteArray × Nat) := [(nm1 97, 2)]
def nl2 : List (ByteArray × Nat) := [(nm1 97, 2), (nm1 98, 3)]
def nl3 : List (ByteArray × Nat) := [(nm1 97, 2), (nm1 98, 3), (nm1 108, 4)]
def nl4 : List (ByteArray × Nat) := [(nm1 97, 2), (nm1 98, 3), (nm1 108, 4), (nm1 100, 5)]
def leafN (kd : Nat) (d : List UInt8) : Pn := ⟨kd, 1, 0, 0, d, none, ⟨#[]⟩⟩
def nds1 : Nds := [(1, rootN nl1), (2, leafN 2 [120, 121, 122])]
def nds2 : Nds := [(1, rootN nl2), (2, leafN 2 [120, 121, 122]), (3, leafN 2 [])]
def nds3 : Nds := [(1, rootN nl3), (2, leafN 2 [120, 121, 122]), (3, leafN 2 []), (4, leafN 3 [97])]
def nds4 : Nds := [(1, rootN nl4), (2, leafN 2 [120, 121, 122]), (3, leafN 2 []), (4, leafN 3 [97]), (5, ⟨1, 1, 0, 1, [], some [], nm1 100⟩)]
def begunC (fb plb tb : Nat) : Sy := ⟨fb, plb, tb, 8, 60, 40, 3, 4⟩
def begunS : St := ⟨nds4, [], 0, [], [], 0, []⟩

theorem made_1 : made [(1, root0)] root0 [] (nm1 97) 2 2 (tl ⟨#[120, 121, 122]⟩) = nds1 := by rfl
theorem made_2 : made nds1 (rootN nl1) nl1 (nm1 98) 3 2 (tl ⟨#[]⟩) = nds2 := by rfl
theorem made_3 : made nds2 (rootN nl2) nl2 (nm1 108) 4 3 (tl ⟨#[97]⟩) = nds3 := by rfl
theorem made_4 : made nds3 (rootN nl3) nl3 (nm1 100) 5 1 (tl ⟨#[]⟩) = nds4 := by rfl

theorem Chg.fresh {N : Nat → Prop} {w w' : World} (h : Chg (fun _ => False) N w w') (F : Nat → Prop) : Chg F (fun g => F g ∨ N g) w w' :=
  ⟨h.os, h.tape, h.output, h.size, fun b hb _ => h.block b hb nofun, fun b hb hf hx => hx.elim hf (h.foot b hb nofun)⟩
set_option maxHeartbeats 4000000 in
set_option maxRecDepth 100000 in
theorem begun_any (w : World) : Calls Tryz.prog 5 #[] w fun e w' => ∃ fb plb tb, e = .returned (.tuple #[.agg #[ptrV fb, ptrV plb, ptrV tb], .bool true]) ∧ ∃ F', Sys w' F' (begunC fb plb tb) begunS ∧ Chg (fun _ => False) F' w w' := by
  go_enter Tryz.func5, Tryz.ntmps5
  go_upto_region 1 with fail
  have zb : Blk (w.alloc (.cells #[.pointer none, .pointer none, .pointer none] 28)) w.heap.size [.pointer none, .pointer none, .pointer none] 28 := Blk.new w _ _
  have g1 : w.grownBy (w.alloc (.cells #[.pointer none, .pointer none, .pointer none] 28)) none := World.grownBy_alloc w _ _
  obtain ⟨z, hz⟩ : ∃ z, w.heap.size = z := ⟨_, rfl⟩
  generalize (w.alloc (.cells #[.pointer none, .pointer none, .pointer none] 28)) = w1 at zb g1 ⊢
  simp only [hz] at zb ⊢
  have c1 := Chg.of_grown g1 (fun _ => False)
  replace hz := Lib.hid hz
  replace g1 := Lib.hid g1
  have hzl := zb.lt
  replace zb := Lib.hid zb
  have hnn := nodes_New w1 8 60 (by decide) (by decide) (by decide)
  go_wp2_with fail
  refine hnn.mono ?_
  rintro e w2 ⟨fb, rfl, Ft, hT2, hC2⟩
  have c2 := c1.trans hC2
  have hsz2 := hC2.size
  have hsn := allF_new (w := w2) 40 3 4 (by decide) (by decide) (by decide) (by decide)
  replace hC2 := Lib.hid hC2
  replace hT2 := Lib.hid hT2
  clear hnn c1
  go_wp2_with fail
  refine hsn.mono ?_
  rintro e w3 ⟨rfl, ⟨Fp, hA3, hC3⟩, hs3⟩
  generalize w2.heap.size = plb at hA3 hsn hs3 ⊢
  have hT3 : TreeF w3 Ft fb 8 60 [(1, root0)] := hT2.out.keep hC3.size fun g hg => hC3.block g (hT2.out.lt hg) nofun
  have hd3 : ∀ g, Fp g → ¬ Ft g := fun g hg hf => hC3.foot g (hT2.out.lt hf) nofun hg
  have c3 : Chg (fun _ => False) (fun g => Ft g ∨ Fp g) w w3 := c2.trans (hC3.fresh Ft)
  have hzf : ¬ (Ft z ∨ Fp z) := fun h => h.elim (fun h => hC2.out.foot z hzl nofun h) fun h => hC3.foot z (by omega) nofun h
  have zb3 : Blk w3 z _ _ := (hC3.block z (by omega) nofun).trans ((hC2.out.block z hzl nofun).trans zb.out)
  have tc : Chg Ft Ft w3 w3 := Chg.refl _ _
  replace hT3 := Lib.hid hT3
  replace zb3 := Lib.hid zb3
  replace c3 := Lib.hid c3
  replace tc := Lib.hid tc
  replace hA3 := Lib.hid hA3
  replace hd3 := Lib.hid hd3
  replace hzf := Lib.hid hzf
  clear hsn hC3 hC2 hT2 c2 zb
  have hmk := make_leaf hT3.out (x := root0) (l := []) rfl rfl rfl rfl 97 (by decide) (by decide) (by decide) (by decide) 2 (by decide) (by decide) rfl (fun j h1 h2 => by obtain rfl : j = 1 := (by omega); exact ⟨_, rfl⟩) (by decide) 2 (by decide) ⟨#[120, 121, 122]⟩ (by decide) (by decide)
  rw [made_1] at hmk
  replace hmk := Lib.hid hmk
  go_wp2_with fail
  refine hmk.out.mono ?_
  rintro e w4 ⟨rfl, Ft4, hT4, hC4⟩
  replace tc := Lib.hid (tc.out.trans hC4)
  replace hT4 := Lib.hid hT4
  clear hmk hT3 hC4
  have hmk := make_leaf hT4.out (x := (rootN nl1)) (l := nl1) rfl rfl rfl rfl 98 (by decide) (by decide) (by decide) (by decide) 3 (by decide) (by decide) rfl (fun j h1 h2 => by rcases (by omega : j = 1 ∨ j = 2) with rfl | rfl <;> exact ⟨_, rfl⟩) (by decide) 2 (by decide) ⟨#[]⟩ (by decide) (by decide)
  rw [made_2] at hmk
  replace hmk := Lib.hid hmk
  go_wp2_with fail
  refine hmk.out.mono ?_
  rintro e w5 ⟨rfl, Ft5, hT5, hC5⟩
  replace tc := Lib.hid (tc.out.trans hC5)
  replace hT5 := Lib.hid hT5
  clear hmk hT4 hC5
  have hmk := make_leaf hT5.out (x := (rootN nl2)) (l := nl2) rfl rfl rfl rfl 108 (by decide) (by decide) (by decide) (by decide) 4 (by decide) (by decide) rfl (fun j h1 h2 => by rcases (by omega : j = 1 ∨ j = 2 ∨ j = 3) with rfl | rfl | rfl <;> exact ⟨_, rfl⟩) (by decide) 3 (by decide) ⟨#[97]⟩ (by decide) (by decide)
  rw [made_3] at hmk
  replace hmk := Lib.hid hmk
  go_wp2_with fail
  refine hmk.out.mono ?_
  rintro e w6 ⟨rfl, Ft6, hT6, hC6⟩
  replace tc := Lib.hid (tc.out.trans hC6)
  replace hT6 := Lib.hid hT6
  clear hmk hT5 hC6
  have hmk := make_dir hT6.out (x := rootN nl3) (l := nl3) rfl rfl rfl rfl 100 (by decide) (by decide) (by decide) (by decide) 5 (by decide) (by decide) rfl (fun j h1 h2 => by rcases (by omega : j = 1 ∨ j = 2 ∨ j = 3 ∨ j = 4) with rfl | rfl | rfl | rfl <;> exact ⟨_, rfl⟩) (by decide)
  rw [show made nds3 (rootN nl3) nl3 (nm1 100) 5 1 [] = nds4 from made_4] at hmk
  replace hmk := Lib.hid hmk
  go_wp2_with fail
  refine hmk.out.mono ?_
  rintro e w7 ⟨rfl, Ft7, hT7, hC7⟩
  replace tc := tc.out.trans hC7
  clear hmk hT6 hC7
  have hA7 := hA3.out.keep tc.size fun g hg => tc.block g (hA3.out.lt hg) (hd3.out g hg)
  have hd7 : ∀ g, Ft7 g → ¬ Fp g := fun g hg hp => tc.foot g (hA3.out.lt hp) (hd3.out g hp) hg
  have c7 : Chg (fun _ => False) (fun g => Ft7 g ∨ Fp g) w w7 := c3.out.trans (tc.wide Fp)
  have hzf7 : ¬ (Ft7 z ∨ Fp z) := fun h => h.elim (fun h => tc.foot z zb3.out.lt (fun h => hzf.out (.inl h)) h) fun h => hzf.out (.inr h)
  have zb7 : Blk w7 z _ _ := (tc.block z zb3.out.lt fun h => hzf.out (.inl h)).trans zb3.out
  have hzl7 := zb7.lt
  have htn := tab_New w7 fb plb
  unfold ptrV at htn
  replace hA7 := Lib.hid hA7
  replace hT7 := Lib.hid hT7
  replace hd7 := Lib.hid hd7
  replace c7 := Lib.hid c7
  replace hzf7 := Lib.hid hzf7
  replace zb7 := Lib.hid zb7
  clear hA3 hd3 c3 hzf zb3 tc
  go_wp2_with fail
  refine htn.mono ?_
  rintro e w8 ⟨tb, rfl, Fh, hH8, hC8⟩
  have hR8 : SysR w8 Ft7 Fp Fh (begunC fb plb tb) begunS := ⟨hT7.out.keep hC8.size fun g hg => hC8.block g (hT7.out.lt hg) nofun, hA7.out.keep hC8.size fun g hg => hC8.block g (hA7.out.lt hg) nofun, hH8, hd7.out, fun g hg hh => hC8.foot g (hT7.out.lt hg) nofun hh, fun g hg hh => hC8.foot g (hA7.out.lt hg) nofun hh⟩
  have c8 : Chg (fun _ => False) (foot Ft7 Fp Fh) w w8 := (c7.out.trans (hC8.fresh (fun g => Ft7 g ∨ Fp g))).mono (fun _ h => h) fun b _ hb => .inl (by
    rcases hb with hb | hb | hb
    · exact .inl (.inl hb)
    · exact .inl (.inr hb)
    · exact .inr hb)
  have hzf8 : ¬ foot Ft7 Fp Fh z := fun h => by
    rcases h with h | h | h
    · exact hzf7.out (.inl h)
    · exact hzf7.out (.inr h)
    · exact hC8.foot z hzl7 nofun h
  have zb8 : Blk w8 z [.pointer none, .pointer none, .pointer none] 28 := (hC8.block z hzl7 nofun).trans zb7.out
  have z0 := zb8.cell (i := 0) rfl
  have z1 := zb8.cell (i := 1) rfl
  have z2 := zb8.cell (i := 2) rfl
  have f0 := zb8.frozen 0
  have f1 := zb8.frozen 1
  have f2 := zb8.frozen 2
  have hzl8 := zb8.lt
  replace zb8 := Lib.hid zb8
  replace hR8 := Lib.hid hR8
  replace c8 := Lib.hid c8
  replace hzf8 := Lib.hid hzf8
  clear htn hC8 hH8 hA7 hT7 hd7 c7 hzf7 zb7
  go_wp2
  have b9 := ((zb8.out.set 0 (ptrV fb)).set 1 (ptrV plb)).set 2 (ptrV tb)
  have c9 : Chg (fun g => g = z) (fun g => g = z) w8 (((w8.setCell ⟨z, 0, none⟩ (ptrV fb)).setCell ⟨z, 1, none⟩ (ptrV plb)).setCell ⟨z, 2, none⟩ (ptrV tb)) := ((Chg.set (F := fun g => g = z) rfl 0 _).trans (Chg.set (F := fun g => g = z) rfl 1 _)).trans (Chg.set (F := fun g => g = z) rfl 2 _)
  unfold ptrV at b9 c9
  generalize ((w8.setCell ⟨z, 0, none⟩ (.pointer (some ⟨fb, 0, none⟩))).setCell ⟨z, 1, none⟩ (.pointer (some ⟨plb, 0, none⟩))).setCell ⟨z, 2, none⟩ (.pointer (some ⟨tb, 0, none⟩)) = w9 at b9 c9 ⊢
  have hR9 := hR8.out.keep c9.size fun g hg => c9.block g (hR8.out.lt hg) fun e => hzf8.out (by rw [← show g = z from e]; exact hg)
  have c10 : Chg (fun _ => False) (foot Ft7 Fp Fh) w w9 := by
    have hzw := hz.out
    exact ⟨c9.os.trans c8.out.os, c9.tape.trans c8.out.tape, c9.output.trans c8.out.output, Nat.le_trans c8.out.size c9.size, fun b hb hf => (c9.block b (Nat.lt_of_lt_of_le hb c8.out.size) (by omega)).trans (c8.out.block b hb hf), c8.out.foot⟩
  have e0 := b9.cell (i := 0) rfl
  have e1 := b9.cell (i := 1) rfl
  have e2 := b9.cell (i := 2) rfl
  exact bodyPost_ret (v := .tuple #[.agg #[ptrV fb, ptrV plb, ptrV tb], .bool true]) (by simp [results, Tryz.results5, go_sem, e0, e1, e2, ptrV]) rfl ⟨fb, plb, tb, rfl, _, ⟨Ft7, Fp, Fh, hR9, fun _ => Iff.rfl⟩, c10⟩
end Go.Proofs.YtffipbmonfodbaaGreatDoor
