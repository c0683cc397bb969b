/-
  SpillPlays answers true where it does no more than the chapter's examples; which. Conditions: numbers of 64 bits.
-/
import Derived.Test.YticoigpkgpdabaaSpBoth
namespace Go.Proofs.Yticoigpkgpdabaa
open Go Go.RowKit

theorem tmod_lt (x : Int) (m : Nat) (hm : 0 < m) : -(m : Int) < x.tmod m ∧ x.tmod m < m := by
  have hm' : (0 : Int) < (m : Int) := by omega
  by_cases h : x < 0
  · have e : x.tmod m = -((-x).tmod m) := by rw [Int.neg_tmod, Int.neg_neg]
    rw [e, Int.tmod_eq_emod_of_nonneg (by omega)]
    have h1 := Int.emod_nonneg (-x) (show (m : Int) ≠ 0 by omega)
    have h2 := Int.emod_lt_of_pos (-x) hm'
    omega
  · rw [Int.tmod_eq_emod_of_nonneg (by omega)]
    have h1 := Int.emod_nonneg x (show (m : Int) ≠ 0 by omega)
    have h2 := Int.emod_lt_of_pos x hm'
    omega
set_option maxHeartbeats 1000000 in
set_option maxRecDepth 100000 in
theorem which_ok (ask oat num : Int) (s : ByteArray) (m : Nat) (hm : 0 < m) (hm2 : m ≤ 1000) : ∃ k, k < m ∧ ∀ w : World, Calls Try.prog 13 #[.agg #[.int .i64 ask, .int .i64 oat, .int .i64 num, .string s], .int .i64 (m : Int)] w fun e w' => e = .returned (.int .i64 (k : Int)) ∧ w.grownBy w' none := by
  obtain ⟨h1, h2⟩ := tmod_lt oat m hm
  have h3 := tmod_lt (oat.tmod m + m) m hm
  have h4 : 0 ≤ (oat.tmod m + m).tmod m := by
    rw [Int.tmod_eq_emod_of_nonneg (by omega)]
    exact Int.emod_nonneg _ (by omega)
  obtain ⟨k, hk⟩ : ∃ k : Nat, (oat.tmod m + m).tmod m = (k : Int) := ⟨((oat.tmod m + m).tmod m).toNat, by omega⟩
  refine ⟨k, by omega, fun w => ?_⟩
  have hm0 : m ≠ 0 := by omega
  obtain ⟨r, hr⟩ : ∃ r, oat.tmod (m : Int) = r := ⟨_, rfl⟩
  rw [hr] at h1 h2 hk
  have hg := World.grownBy_alloc w (.cells #[.int .i64 ask, .int .i64 oat, .int .i64 num, .string s] 35) none
  obtain ⟨w1, hw1⟩ : ∃ w1, w.alloc (.cells #[.int .i64 ask, .int .i64 oat, .int .i64 num, .string s] 35) = w1 := ⟨_, rfl⟩
  have c1 : w1.cell? ⟨w.heap.size, 1, none⟩ = some (.int .i64 oat) := by rw [← hw1]; exact (Blk.new w [.int .i64 ask, .int .i64 oat, .int .i64 num, .string s] 35).cell rfl
  have hz : w.heap.size < w1.heap.size := by rw [← hw1]; simp
  rw [hw1] at hg
  replace hg := Lib.hid hg
  clear h3 h4
  go_enter Try.func13, Try.ntmps13
  go_upto_region 1 with fail
  obtain ⟨z, hzz⟩ : ∃ z, w.heap.size = z := ⟨_, rfl⟩
  rw [hzz] at c1 hz ⊢
  clear hw1 hzz
  go_wp2
  go_ret
  exact ⟨rfl, hg.out⟩
set_option maxHeartbeats 4000000 in
set_option maxRecDepth 100000 in
theorem lawPlays_few (l : List Opd) (a b d : Int) (v : Value) (w : World) (h : Ops w v l) (hf : fewB l = false) :
    Calls Try.prog 3 #[v, .agg #[.int .i64 a, .int .i64 b, .int .i64 d]] w fun e w' => e = .returned (.bool true) ∧ w.grownBy w' none := by
  obtain ⟨w1, hW1⟩ : ∃ w1, w.alloc (.cells #[.int .i64 a, .int .i64 b, .int .i64 d] 23) = w1 := ⟨_, rfl⟩
  have hb1 : Blk w1 w.heap.size [.int .i64 a, .int .i64 b, .int .i64 d] 23 := by rw [← hW1]; exact Blk.new w _ _
  have hg1 : w.grownBy w1 none := by rw [← hW1]; exact World.grownBy_alloc w _ none
  have hops : Ops w1 v l := by rw [← hW1]; exact h.alloc _
  have hfw := few_any l v w1 hops
  rw [hf] at hfw
  have k0 := hb1.cell (i := 0) rfl
  have k1 := hb1.cell (i := 1) rfl
  have k2 := hb1.cell (i := 2) rfl
  have hz := hb1.lt
  have haw := awake_any w1
  obtain ⟨A, c, rfl, hc, hcm⟩ := h.form
  clear h hops hb1
  replace hg1 := Lib.hid hg1
  go_enter Try.func3, Try.ntmps3
  go_upto_region 1 with fail
  obtain ⟨z, hzz⟩ : ∃ z, w.heap.size = z := ⟨_, rfl⟩
  rw [hzz] at k0 k1 k2 hz ⊢
  clear hW1 hzz
  go_wp2_with (first | (go_at_call 7; refine hfw.mono ?_; rintro e w' ⟨rfl, hw⟩; obtain rfl := hw.symm) | (go_at_call 8; refine haw.mono ?_; rintro e w' ⟨rfl, hg⟩; replace hg := Lib.hid hg))
  go_ret
  exact ⟨rfl, grownBy_chain hg1.out hg.out⟩
set_option maxHeartbeats 4000000 in
set_option maxRecDepth 100000 in
theorem lawPlays_no (l : List Opd) (a b d : Int) (v : Value) (w : World) (h : Ops w v l) (hf : fewB l = true) (hp : mayPool a b d = false) :
    Calls Try.prog 3 #[v, .agg #[.int .i64 a, .int .i64 b, .int .i64 d]] w fun e w' => e = .returned (.bool true) ∧ w.grownBy w' none := by
  obtain ⟨w1, hW1⟩ : ∃ w1, w.alloc (.cells #[.int .i64 a, .int .i64 b, .int .i64 d] 23) = w1 := ⟨_, rfl⟩
  have hb1 : Blk w1 w.heap.size [.int .i64 a, .int .i64 b, .int .i64 d] 23 := by rw [← hW1]; exact Blk.new w _ _
  have hg1 : w.grownBy w1 none := by rw [← hW1]; exact World.grownBy_alloc w _ none
  have hops : Ops w1 v l := by rw [← hW1]; exact h.alloc _
  have hfw := few_any l v w1 hops
  rw [hf] at hfw
  have k0 := hb1.cell (i := 0) rfl
  have k1 := hb1.cell (i := 1) rfl
  have k2 := hb1.cell (i := 2) rfl
  have hz := hb1.lt
  have haw := awake_any w1
  have hnew := New_no a b d w1 hp
  have hrnew := rnew_no (w := w1) a b d hp
  obtain ⟨A, c, rfl, hc, hcm⟩ := h.form
  clear h hops hb1 hp
  replace hg1 := Lib.hid hg1
  go_enter Try.func3, Try.ntmps3
  go_upto_region 1 with fail
  obtain ⟨z, hzz⟩ : ∃ z, w.heap.size = z := ⟨_, rfl⟩
  rw [hzz] at k0 k1 k2 hz ⊢
  clear hW1 hzz
  go_wp2_with (first | (go_at_call 7; refine hfw.mono ?_; rintro e w' ⟨rfl, hw⟩; obtain rfl := hw.symm) | (go_at_call 9; refine hnew.mono ?_; rintro e w' ⟨rfl, hw⟩; obtain rfl := hw.symm) | (go_at_call 10; refine hrnew.mono ?_; rintro e w' ⟨rfl, hw⟩; obtain rfl := hw.symm) | (go_at_call 8; refine haw.mono ?_; rintro e w' ⟨rfl, hg⟩; replace hg := Lib.hid hg))
  go_ret
  exact ⟨rfl, grownBy_chain hg1.out hg.out⟩
end Go.Proofs.Yticoigpkgpdabaa
