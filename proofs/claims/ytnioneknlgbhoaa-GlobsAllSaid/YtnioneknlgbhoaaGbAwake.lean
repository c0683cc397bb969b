/-
  The chapter's examples come out as they should: awake answers true, in every world. Conditions: none.
-/
import Derived.Test.YtnioneknlgbhoaaGbCompile
import Derived.Test.YtnioneknlgbhoaaGbPath
import Derived.Test.YtnioneknlgbhoaaMkOf
namespace Go.Proofs.Ytnioneknlgbhoaa
open Go Go.RowKit

theorem aw_a : compileP false (ofL ⟨#[97, 42, 99]⟩ false) = [(1, 97, false, []), (3, 0, false, []), (1, 99, false, [])] := by decide +kernel
theorem aw_b : compileP false (ofL ⟨#[91, 33, 97, 45, 99, 93, 63]⟩ false) = [(4, 0, true, [(97, 99)]), (2, 0, false, [])] := by decide +kernel
theorem aw_c : compileP false (ofL ⟨#[91, 91, 58, 100, 105, 103, 105, 116, 58, 93, 120, 93]⟩ false) = [(4, 0, false, [(48, 57), (120, 120)])] := by decide +kernel
theorem aw_d : compileP true (ofL ⟨#[42]⟩ false) = [(3, 0, false, [])] := by decide +kernel
theorem awt0 : mt [(1, 97, false, []), (3, 0, false, []), (1, 99, false, [])] (bl ⟨#[97, 98, 98, 99]⟩) = true := by decide +kernel
theorem awt1 : mt [(1, 97, false, []), (3, 0, false, []), (1, 99, false, [])] (bl ⟨#[97, 98]⟩) = false := by decide +kernel
theorem awt2 : mt [(4, 0, true, [(97, 99)]), (2, 0, false, [])] (bl ⟨#[100, 120]⟩) = true := by decide +kernel
theorem awt3 : mt [(4, 0, true, [(97, 99)]), (2, 0, false, [])] (bl ⟨#[97, 120]⟩) = false := by decide +kernel
theorem awt4 : mt [(4, 0, false, [(48, 57), (120, 120)])] (bl ⟨#[55]⟩) = true := by decide +kernel
theorem awt5 : mt [(4, 0, false, [(48, 57), (120, 120)])] (bl ⟨#[100]⟩) = false := by decide +kernel
theorem awt6 : pathM [(3, 0, false, [])] (bl ⟨#[97, 98]⟩) = true := by decide +kernel
theorem awt7 : pathM [(3, 0, false, [])] (bl ⟨#[46, 97, 98]⟩) = false := by decide +kernel
theorem awt8 : pathM [(3, 0, false, [])] (bl ⟨#[97, 47, 98]⟩) = false := by decide +kernel
theorem aws : specialP [(3, 0, false, [])] = true := by decide +kernel

set_option maxHeartbeats 2000000 in
set_option maxRecDepth 100000 in
theorem awake_any (w : World) : Calls Try.prog 12 #[] w fun e w' => e = .returned (.bool true) ∧ Below w.heap.size w w' := by
  go_enter Try.func12, Try.ntmps12
  go_wp2_with fail
  refine (of_any ⟨#[97, 42, 99]⟩ false _ (by decide)).mono ?_
  rintro e w1 ⟨v1, rfl, hT, hb1⟩
  have hbA := hb1
  clear hb1
  go_wp2_with fail
  refine (compile_any (ofL ⟨#[97, 42, 99]⟩ false) false _ _ hT (by decide)).mono ?_
  rintro e w2 ⟨v2, rfl, ht_a, hb2⟩
  clear hT
  rw [aw_a] at ht_a
  have hbA := hbA.trans (hb2.mono hbA.size)
  clear hb2
  obtain ⟨A_a, c_a, rfl, _, _⟩ := ht_a.form
  go_wp2_with fail
  refine (of_any ⟨#[91, 33, 97, 45, 99, 93, 63]⟩ false _ (by decide)).mono ?_
  rintro e w3 ⟨v3, rfl, hT, hb3⟩
  have ht_a := (ht_a.below hb3).more hb3.size
  have hbA := hbA.trans (hb3.mono hbA.size)
  clear hb3
  go_wp2_with fail
  refine (compile_any (ofL ⟨#[91, 33, 97, 45, 99, 93, 63]⟩ false) false _ _ hT (by decide)).mono ?_
  rintro e w4 ⟨v4, rfl, ht_b, hb4⟩
  clear hT
  rw [aw_b] at ht_b
  have ht_a := (ht_a.below hb4).more hb4.size
  have hbA := hbA.trans (hb4.mono hbA.size)
  clear hb4
  obtain ⟨A_b, c_b, rfl, _, _⟩ := ht_b.form
  go_wp2_with fail
  refine (of_any ⟨#[91, 91, 58, 100, 105, 103, 105, 116, 58, 93, 120, 93]⟩ false _ (by decide)).mono ?_
  rintro e w5 ⟨v5, rfl, hT, hb5⟩
  have ht_a := (ht_a.below hb5).more hb5.size
  have ht_b := (ht_b.below hb5).more hb5.size
  have hbA := hbA.trans (hb5.mono hbA.size)
  clear hb5
  go_wp2_with fail
  refine (compile_any (ofL ⟨#[91, 91, 58, 100, 105, 103, 105, 116, 58, 93, 120, 93]⟩ false) false _ _ hT (by decide)).mono ?_
  rintro e w6 ⟨v6, rfl, ht_c, hb6⟩
  clear hT
  rw [aw_c] at ht_c
  have ht_a := (ht_a.below hb6).more hb6.size
  have ht_b := (ht_b.below hb6).more hb6.size
  have hbA := hbA.trans (hb6.mono hbA.size)
  clear hb6
  obtain ⟨A_c, c_c, rfl, _, _⟩ := ht_c.form
  go_wp2_with fail
  refine (of_any ⟨#[42]⟩ false _ (by decide)).mono ?_
  rintro e w7 ⟨v7, rfl, hT, hb7⟩
  have ht_a := (ht_a.below hb7).more hb7.size
  have ht_b := (ht_b.below hb7).more hb7.size
  have ht_c := (ht_c.below hb7).more hb7.size
  have hbA := hbA.trans (hb7.mono hbA.size)
  clear hb7
  go_wp2_with fail
  refine (compile_any (ofL ⟨#[42]⟩ false) true _ _ hT (by decide)).mono ?_
  rintro e w8 ⟨v8, rfl, ht_d, hb8⟩
  clear hT
  rw [aw_d] at ht_d
  have ht_a := (ht_a.below hb8).more hb8.size
  have ht_b := (ht_b.below hb8).more hb8.size
  have ht_c := (ht_c.below hb8).more hb8.size
  have hbA := hbA.trans (hb8.mono hbA.size)
  clear hb8
  obtain ⟨A_d, c_d, rfl, _, _⟩ := ht_d.form
  go_wp2_with fail
  refine (match_any [(1, 97, false, []), (3, 0, false, []), (1, 99, false, [])] _ ⟨#[97, 98, 98, 99]⟩ _ _ ht_a (Nat.le_refl _) (by decide) (by decide)).mono ?_
  rintro e w9 ⟨rfl, hb9⟩
  rw [awt0]
  have ht_a := (ht_a.below hb9).more hb9.size
  have ht_b := (ht_b.below hb9).more hb9.size
  have ht_c := (ht_c.below hb9).more hb9.size
  have ht_d := (ht_d.below hb9).more hb9.size
  have hbA := hbA.trans (hb9.mono hbA.size)
  clear hb9
  go_wp2_with fail
  refine (match_any [(1, 97, false, []), (3, 0, false, []), (1, 99, false, [])] _ ⟨#[97, 98]⟩ _ _ ht_a (Nat.le_refl _) (by decide) (by decide)).mono ?_
  rintro e w10 ⟨rfl, hb10⟩
  rw [awt1]
  have ht_a := (ht_a.below hb10).more hb10.size
  have ht_b := (ht_b.below hb10).more hb10.size
  have ht_c := (ht_c.below hb10).more hb10.size
  have ht_d := (ht_d.below hb10).more hb10.size
  have hbA := hbA.trans (hb10.mono hbA.size)
  clear hb10
  go_wp2_with fail
  refine (match_any [(4, 0, true, [(97, 99)]), (2, 0, false, [])] _ ⟨#[100, 120]⟩ _ _ ht_b (Nat.le_refl _) (by decide) (by decide)).mono ?_
  rintro e w11 ⟨rfl, hb11⟩
  rw [awt2]
  have ht_a := (ht_a.below hb11).more hb11.size
  have ht_b := (ht_b.below hb11).more hb11.size
  have ht_c := (ht_c.below hb11).more hb11.size
  have ht_d := (ht_d.below hb11).more hb11.size
  have hbA := hbA.trans (hb11.mono hbA.size)
  clear hb11
  go_wp2_with fail
  refine (match_any [(4, 0, true, [(97, 99)]), (2, 0, false, [])] _ ⟨#[97, 120]⟩ _ _ ht_b (Nat.le_refl _) (by decide) (by decide)).mono ?_
  rintro e w12 ⟨rfl, hb12⟩
  rw [awt3]
  have ht_a := (ht_a.below hb12).more hb12.size
  have ht_b := (ht_b.below hb12).more hb12.size
  have ht_c := (ht_c.below hb12).more hb12.size
  have ht_d := (ht_d.below hb12).more hb12.size
  have hbA := hbA.trans (hb12.mono hbA.size)
  clear hb12
  go_wp2_with fail
  refine (match_any [(4, 0, false, [(48, 57), (120, 120)])] _ ⟨#[55]⟩ _ _ ht_c (Nat.le_refl _) (by decide) (by decide)).mono ?_
  rintro e w13 ⟨rfl, hb13⟩
  rw [awt4]
  have ht_a := (ht_a.below hb13).more hb13.size
  have ht_b := (ht_b.below hb13).more hb13.size
  have ht_c := (ht_c.below hb13).more hb13.size
  have ht_d := (ht_d.below hb13).more hb13.size
  have hbA := hbA.trans (hb13.mono hbA.size)
  clear hb13
  go_wp2_with fail
  refine (match_any [(4, 0, false, [(48, 57), (120, 120)])] _ ⟨#[100]⟩ _ _ ht_c (Nat.le_refl _) (by decide) (by decide)).mono ?_
  rintro e w14 ⟨rfl, hb14⟩
  rw [awt5]
  have ht_a := (ht_a.below hb14).more hb14.size
  have ht_b := (ht_b.below hb14).more hb14.size
  have ht_c := (ht_c.below hb14).more hb14.size
  have ht_d := (ht_d.below hb14).more hb14.size
  have hbA := hbA.trans (hb14.mono hbA.size)
  clear hb14
  go_wp2_with fail
  refine (path_any [(3, 0, false, [])] _ ⟨#[97, 98]⟩ _ ht_d (by decide) (by decide)).mono ?_
  rintro e w15 ⟨rfl, hb15⟩
  rw [awt6]
  have ht_a := (ht_a.below hb15).more hb15.size
  have ht_b := (ht_b.below hb15).more hb15.size
  have ht_c := (ht_c.below hb15).more hb15.size
  have ht_d := (ht_d.below hb15).more hb15.size
  have hbA := hbA.trans (hb15.mono hbA.size)
  clear hb15
  go_wp2_with fail
  refine (path_any [(3, 0, false, [])] _ ⟨#[46, 97, 98]⟩ _ ht_d (by decide) (by decide)).mono ?_
  rintro e w16 ⟨rfl, hb16⟩
  rw [awt7]
  have ht_a := (ht_a.below hb16).more hb16.size
  have ht_b := (ht_b.below hb16).more hb16.size
  have ht_c := (ht_c.below hb16).more hb16.size
  have ht_d := (ht_d.below hb16).more hb16.size
  have hbA := hbA.trans (hb16.mono hbA.size)
  clear hb16
  go_wp2_with fail
  refine (path_any [(3, 0, false, [])] _ ⟨#[97, 47, 98]⟩ _ ht_d (by decide) (by decide)).mono ?_
  rintro e w17 ⟨rfl, hb17⟩
  rw [awt8]
  have ht_a := (ht_a.below hb17).more hb17.size
  have ht_b := (ht_b.below hb17).more hb17.size
  have ht_c := (ht_c.below hb17).more hb17.size
  have ht_d := (ht_d.below hb17).more hb17.size
  have hbA := hbA.trans (hb17.mono hbA.size)
  clear hb17
  go_wp2_with fail
  refine (special_any [(3, 0, false, [])] _ _ _ ht_d (Nat.le_refl _) (by decide)).mono ?_
  rintro e w18 ⟨rfl, hb18⟩
  rw [aws]
  have ht_a := (ht_a.below hb18).more hb18.size
  have ht_b := (ht_b.below hb18).more hb18.size
  have ht_c := (ht_c.below hb18).more hb18.size
  have ht_d := (ht_d.below hb18).more hb18.size
  have hbA := hbA.trans (hb18.mono hbA.size)
  clear hb18
  go_wp2
  go_ret
  exact ⟨rfl, hbA⟩
end Go.Proofs.Ytnioneknlgbhoaa
