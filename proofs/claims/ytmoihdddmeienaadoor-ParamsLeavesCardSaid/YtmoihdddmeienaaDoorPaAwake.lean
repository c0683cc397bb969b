/-
  The chapter's examples come out as they should: awake answers true, in every world. Conditions: none.
-/
import Derived.Test.YtmoihdddmeienaaDoorPaTrim
import Derived.Test.YtmoihdddmeienaaDoorPaJoin
import Derived.Test.YtmoihdddmeienaaDoorPaSmall
import Derived.Test.YtmoihdddmeienaaDoorMkOf
namespace Go.Proofs.YtmoihdddmeienaaDoor
open Go Go.RowKit

theorem aw_1 : leftP 1 (compileP false (ofL ⟨#[42, 47]⟩ false)) ⟨#[97, 47, 98, 47, 99]⟩ = ⟨#[99]⟩ := by decide +kernel
theorem aw_2 : leftP 2 (compileP false (ofL ⟨#[47, 42]⟩ false)) ⟨#[97, 47, 98, 47, 99]⟩ = ⟨#[97, 47, 98]⟩ := by decide +kernel
theorem aw_3 : argP [⟨#[97]⟩, ⟨#[98]⟩] (bl ⟨#[50]⟩) = (⟨#[98]⟩, true, 0) := by decide +kernel
theorem aw_4 : argP [⟨#[97]⟩] (bl ⟨#[48, 49]⟩) = (⟨#[]⟩, false, 1) := by decide +kernel
theorem aw_5 : joinP [⟨#[97]⟩, ⟨#[98]⟩] (sepP (bl ⟨#[58, 59]⟩) true) = ⟨#[97, 58, 98]⟩ := by decide +kernel
theorem ls_two {W : World} {b : Nat} {x y : ByteArray} (hb : b < W.heap.size) (h0 : W.cell? ⟨b, 0, none⟩ = some (.string x)) (h1 : W.cell? ⟨b, 1, none⟩ = some (.string y)) : Ls W W.heap.size (.slice (some ⟨b, 0, none⟩) 2 2) [x, y] := by
  refine ⟨_, 2, rfl, Nat.le_refl _, by unfold maxLen; omega, rfl, fun _ => ⟨b, 0, rfl, hb, fun j u hu => ?_⟩⟩
  match j, hu with
  | 0, hu => rw [h0]; simpa using hu
  | 1, hu => rw [show (0 + 1 : Nat) = 1 from rfl, h1]; simpa using hu
theorem ls_one {W : World} {b : Nat} {x : ByteArray} (hb : b < W.heap.size) (h0 : W.cell? ⟨b, 0, none⟩ = some (.string x)) : Ls W W.heap.size (.slice (some ⟨b, 0, none⟩) 1 1) [x] := by
  refine ⟨_, 1, rfl, Nat.le_refl _, by unfold maxLen; omega, rfl, fun _ => ⟨b, 0, rfl, hb, fun j u hu => ?_⟩⟩
  match j, hu with
  | 0, hu => rw [h0]; simpa using hu

set_option maxHeartbeats 2000000 in
set_option maxRecDepth 100000 in
theorem awake_any (w : World) : Calls Tryd.prog 7 #[] w fun e w' => e = .returned (.bool true) ∧ Below w.heap.size w w' := by
  go_enter Tryd.func7, Tryd.ntmps7
  go_wp2_with fail
  refine (of_any ⟨#[42, 47]⟩ false _ (by decide)).mono ?_
  rintro e w1 ⟨v1, rfl, hT, hb1⟩
  have hbA := hb1
  clear hb1
  go_wp2_with fail
  refine (trim_any _ v1 ⟨#[97, 47, 98, 47, 99]⟩ _ 1 (by decide) hT (by decide) (by decide)).mono ?_
  rintro e w2 ⟨rfl, hb2⟩
  clear hT
  rw [aw_1]
  have hbA := hbA.trans (hb2.mono hbA.size)
  clear hb2
  go_wp2_with fail
  refine (of_any ⟨#[47, 42]⟩ false _ (by decide)).mono ?_
  rintro e w3 ⟨v3, rfl, hT, hb3⟩
  have hbA := hbA.trans (hb3.mono hbA.size)
  clear hb3
  go_wp2_with fail
  refine (trim_any _ v3 ⟨#[97, 47, 98, 47, 99]⟩ _ 2 (by decide) hT (by decide) (by decide)).mono ?_
  rintro e w4 ⟨rfl, hb4⟩
  clear hT
  rw [aw_2]
  have hbA := hbA.trans (hb4.mono hbA.size)
  clear hb4
  go_wp2_with fail
  have hls := ls_two (W := w4.alloc (.cells #[.string ⟨#[97]⟩, .string ⟨#[98]⟩] 9)) (b := w4.heap.size) (by simp) (World.cell?_alloc_new w4 _ _ 0) (World.cell?_alloc_new w4 _ _ 1)
  have hbA := hbA.alloc hbA.size (.cells #[.string ⟨#[97]⟩, .string ⟨#[98]⟩] 9)
  refine (arg_any _ ⟨#[50]⟩ _ _ _ hls (Nat.le_refl _) (by decide) (by decide) (fun h => absurd h (by decide +kernel))).mono ?_
  rintro e w5 ⟨rfl, hb5⟩
  clear hls
  rw [aw_3]
  have hbA := hbA.trans (hb5.mono hbA.size)
  clear hb5
  go_wp2_with fail
  have hls := ls_one (W := w5.alloc (.cells #[.string ⟨#[97]⟩] 9)) (b := w5.heap.size) (by simp) (World.cell?_alloc_new w5 _ _ 0)
  have hbA := hbA.alloc hbA.size (.cells #[.string ⟨#[97]⟩] 9)
  refine (arg_any _ ⟨#[48, 49]⟩ _ _ _ hls (Nat.le_refl _) (by decide) (by decide) (fun h => absurd h (by decide +kernel))).mono ?_
  rintro e w6 ⟨rfl, hb6⟩
  clear hls
  rw [aw_4]
  have hbA := hbA.trans (hb6.mono hbA.size)
  clear hb6
  go_wp2_with fail
  refine (choose_a _).mono ?_
  rintro e w7 ⟨rfl, hb7⟩
  have hbA := hbA.trans (hb7.mono hbA.size)
  clear hb7
  go_wp2_with fail
  refine (choose_b _).mono ?_
  rintro e w8 ⟨rfl, hb8⟩
  have hbA := hbA.trans (hb8.mono hbA.size)
  clear hb8
  go_wp2_with fail
  refine (choose_c _).mono ?_
  rintro e w9 ⟨rfl, hb9⟩
  have hbA := hbA.trans (hb9.mono hbA.size)
  clear hb9
  go_wp2_with fail
  have hls := ls_two (W := w9.alloc (.cells #[.string ⟨#[97]⟩, .string ⟨#[98]⟩] 9)) (b := w9.heap.size) (by simp) (World.cell?_alloc_new w9 _ _ 0) (World.cell?_alloc_new w9 _ _ 1)
  have hbA := hbA.alloc hbA.size (.cells #[.string ⟨#[97]⟩, .string ⟨#[98]⟩] 9)
  refine (join_any _ _ _ _ ⟨#[58, 59]⟩ true hls (Nat.le_refl _) (by decide) (by decide) (by decide +kernel)).mono ?_
  rintro e w10 ⟨rfl, hb10⟩
  clear hls
  rw [aw_5]
  have hbA := hbA.trans (hb10.mono hbA.size)
  clear hb10
  go_wp2
  go_ret
  exact ⟨rfl, hbA⟩
end Go.Proofs.YtmoihdddmeienaaDoor
