/-
  The walk of GlobsNot: it answers true and leaves what was there. Conditions: the ranges lie in memory that was there.
-/
import Derived.Test.YtnioneknlgbhoaaGbAwake
namespace Go.Proofs.Ytnioneknlgbhoaa
open Go Go.RowKit

theorem mt_group (no : Bool) (l : List Rg) (b : UInt8) : mt [(4, 0, no, l)] [b] = (inR l b != no) := by
  simp [mt, mtM, endQ, stepQ, oneQ, bareCh, fitM, fit]
theorem its_one {w : World} {H : Nat} (hH : w.heap.size = H) {v : Value} {x : It} (hr : Rgs w w.heap.size v x.2.2.2) : Its (w.alloc (.cells #[.int .i64 x.1, .int .u8 (x.2.1.toNat : Int), .bool x.2.2.1, v] 50)) (w.alloc (.cells #[.int .i64 x.1, .int .u8 (x.2.1.toNat : Int), .bool x.2.2.1, v] 50)).heap.size (.slice (some ⟨H, 0, none⟩) 1 1) [x] := by
  subst hH
  have hbl : Below w.heap.size w (w.alloc (.cells #[.int .i64 x.1, .int .u8 (x.2.1.toNat : Int), .bool x.2.2.1, v] 50)) := (Below.refl _ _).alloc (Nat.le_refl _) _
  refine ⟨[v], ⟨_, 1, rfl, Nat.le_refl _, by decide, rfl, fun _ => ⟨w.heap.size, 0, rfl, by simp, fun j u hu => ?_⟩⟩, rfl, fun k y hy => ?_⟩
  · have := new_cells w #[.int .i64 x.1, .int .u8 (x.2.1.toNat : Int), .bool x.2.2.1, v] 50 j u (by simpa [cellsIt, ci] using hu)
    rwa [add_plain0] at this
  · match k, hy with
    | 0, hy => injection hy with hy; subst hy; exact ⟨v, rfl, (hr.below hbl).more hbl.size⟩

set_option maxHeartbeats 1000000 in
set_option maxRecDepth 100000 in
theorem lawNot_any (l : List Rg) (b : UInt8) (v : Value) (w : World) (ht : Rgs w w.heap.size v l) :
    Calls Try.prog 10 #[v, .int .u8 (b.toNat : Int)] w fun e w' => e = .returned (.bool true) ∧ Below w.heap.size w w' := by
  obtain ⟨A, c, rfl, hc, hcm⟩ := ht.form
  unfold maxLen at hcm
  by_cases hl : l.length ≤ 60
  · have hcv : ∀ W : World, W = w.alloc (.cells #[.int .u8 (b.toNat : Int)] 5) → (convert 51 9 (.slice (some ⟨w.heap.size, 0, none⟩) 1 1)).run Try.prog W = .ok (.string ⟨#[b]⟩) W := by
      rintro W rfl
      exact run_string_own (l := [b]) (World.ownsRow_lit (base := w.heap.size) (e := 5) (size := 1) w #[.int .u8 (b.toNat : Int)] 1 (Nat.le_refl _) (by decide) rfl)
    have hcv := hcv _ rfl
    have hm1 := mt_group false l b
    have hm2 := mt_group true l b
    have hb1 : Below w.heap.size w (w.alloc (.cells #[.int .u8 (b.toNat : Int)] 5)) := (Below.refl _ _).alloc (Nat.le_refl _) _
    have ht1 := (ht.below hb1).more hb1.size
    cases hin : inR l b
    all_goals
      rw [hin] at hm1 hm2
      have hm1 := Lib.hid hm1
      have hm2 := Lib.hid hm2
      clear hin
      go_enter Try.func10, Try.ntmps10
      go_wp2_with fail
      have hit1 : Its ((w.alloc (.cells #[.int .u8 (b.toNat : Int)] 5)).alloc (.cells #[.int .i64 4, .int .u8 0, .bool false, .slice A l.length c] 50)) ((w.alloc (.cells #[.int .u8 (b.toNat : Int)] 5)).alloc (.cells #[.int .i64 4, .int .u8 0, .bool false, .slice A l.length c] 50)).heap.size (.slice (some ⟨w.heap.size + 1, 0, none⟩) 1 1) [(4, 0, false, l)] := its_one (x := (4, 0, false, l)) (by simp) ht1
      refine (match_any [(4, 0, false, l)] _ ⟨#[b]⟩ _ _ hit1 (Nat.le_refl _) (by simp) (show 1 ≤ 1000000 by omega)).mono ?_
      rintro e w2 ⟨rfl, hb2⟩
      rw [show mt [(4, 0, false, l)] (bl ⟨#[b]⟩) = _ from hm1.out]
      have hbA : Below w.heap.size w w2 := (hb1.alloc hb1.size _).trans (hb2.mono (by simp; omega))
      have ht2 := (ht.below hbA).more hbA.size
      clear hit1 hb2 ht1 hb1 hcv hm1
      go_wp2_with fail
      have hit2 : Its (w2.alloc (.cells #[.int .i64 4, .int .u8 0, .bool true, .slice A l.length c] 50)) (w2.alloc (.cells #[.int .i64 4, .int .u8 0, .bool true, .slice A l.length c] 50)).heap.size (.slice (some ⟨w2.heap.size, 0, none⟩) 1 1) [(4, 0, true, l)] := its_one (x := (4, 0, true, l)) rfl ht2
      refine (match_any [(4, 0, true, l)] _ ⟨#[b]⟩ _ _ hit2 (Nat.le_refl _) (by simp) (show 1 ≤ 1000000 by omega)).mono ?_
      rintro e w3 ⟨rfl, hb3⟩
      rw [show mt [(4, 0, true, l)] (bl ⟨#[b]⟩) = _ from hm2.out]
      have hbB : Below w.heap.size w w3 := (hbA.alloc hbA.size _).trans (hb3.mono (by have := hbA.size; simp; omega))
      clear hit2 hb3 ht2 hbA hm2 ht
      go_wp2_with fail
      refine (awake_any _).mono ?_
      rintro e w4 ⟨rfl, hb4⟩
      go_wp2
      go_ret
      exact ⟨rfl, hbB.trans (hb4.mono hbB.size)⟩
  · go_enter Try.func10, Try.ntmps10
    go_wp2_with fail
    refine (awake_any _).mono ?_
    rintro e w1 ⟨rfl, hb1⟩
    go_wp2
    go_ret
    exact ⟨rfl, hb1⟩
end Go.Proofs.Ytnioneknlgbhoaa
