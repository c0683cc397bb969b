/-
  SumsNumbers answers true. Conditions: the table of powers of ten holds them.
-/
import Derived.Test.YtlijlgbaikijnaaGreatDoorSmAwake
import Derived.Test.YtlijlgbaikijnaaGreatDoorSmRText
import Derived.Test.YtlijlgbaikijnaaGreatDoorSmRNum2
namespace Go.Proofs.YtlijlgbaikijnaaGreatDoor
open Go Go.RowKit

set_option maxHeartbeats 4000000 in
set_option maxRecDepth 100000 in
theorem lawNumbers_any (s : ByteArray) (n : Int) (hn : InR n) (w : World) (ht : Tab w) :
    Calls Tryz.prog 3 #[.string s, .int .i64 n] w fun e w' => e = .returned (.bool true) ∧ Below w.heap.size w w' := by
  have haw := fun W h => awake_any W h
  by_cases hs : s.size ≤ 100
  · have hnu := fun W => number_any s W (by omega)
    have hrn := fun W => rNumber_any s W (by omega)
    have htx := fun W h => text_any n hn.1 hn.2 W h
    have hrt := fun W => rText_any n hn W
    unfold TextR at hrt
    obtain ⟨o, ho⟩ : ∃ o, numP (tl s) = o := ⟨_, rfl⟩
    rw [ho] at hnu hrn
    generalize (⟨(Lib.itoa n).toArray⟩ : ByteArray) = T at htx hrt
    have i0 : ¬ (100 : Int) < (s.size : Int) := by omega
    have ht := Lib.hid ht
    clear ho hn hs
    obtain ⟨x, y, hxy⟩ : ∃ x y, numR o = .tuple #[.int .i64 x, .int .i64 y] := by cases o with | none => exact ⟨_, _, rfl⟩ | some m => exact ⟨_, _, rfl⟩
    rw [hxy] at hnu hrn
    clear hxy
    go_enter Tryz.func3, Tryz.ntmps3
    go_wp2_with fail
    refine (hnu _).mono ?_
    rintro e w1 ⟨rfl, hb1⟩
    have hg1 := below_none hb1
    go_wp2_with fail
    refine (hrn _).mono ?_
    rintro e w2 ⟨rfl, hw2⟩
    obtain rfl := hw2.symm
    clear hnu hrn
    go_wp2_with fail
    refine (htx _ (ht.out.below (below_of_none hg1))).mono ?_
    rintro e w3 ⟨rfl, hb3⟩
    have hg3 := grownBy_trans' hg1 (below_none hb3)
    go_wp2_with fail
    refine (hrt _).mono ?_
    rintro e w4 ⟨rfl, hg4⟩
    have hg4 := grownBy_trans' hg3 hg4
    clear htx hrt
    go_wp2_with fail
    refine (haw _ (ht.out.below (below_of_none hg4))).mono ?_
    rintro e w5 ⟨rfl, hg5⟩
    have hgE := grownBy_trans' hg4 hg5
    clear haw
    go_wp2
    go_ret
    exact ⟨rfl, below_of_none hgE⟩
  · have i0 : (100 : Int) < (s.size : Int) := by omega
    have haw := haw w ht
    go_enter Tryz.func3, Tryz.ntmps3
    go_wp2_with fail
    refine haw.mono ?_
    rintro e w1 ⟨rfl, hg⟩
    go_wp2
    go_ret
    exact ⟨rfl, below_of_none hg⟩
end Go.Proofs.YtlijlgbaikijnaaGreatDoor
