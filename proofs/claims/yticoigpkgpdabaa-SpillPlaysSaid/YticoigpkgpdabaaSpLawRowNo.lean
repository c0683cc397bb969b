/-
  SpillRow answers true where it does no more than the chapter's examples. Conditions: numbers of 64 bits.
-/
import Derived.Test.YticoigpkgpdabaaSpLawQuota
import Derived.Laws.Concat
namespace Go.Proofs.Yticoigpkgpdabaa
open Go Go.RowKit

theorem tl_app (a b : ByteArray) : tl (a ++ b) = tl a ++ tl b := by
  unfold tl
  rw [ByteArray.data_append, Array.toList_append]
theorem tl_upto (s : ByteArray) (k : Nat) : tl (s.extract 0 k) = (tl s).take k := by
  unfold tl
  simp [ByteArray.data_extract, Array.toList_extract, List.extract]
theorem tl_mk (l : List UInt8) : tl ⟨l.toArray⟩ = l := rfl
theorem toL (s : ByteArray) : s.toList = tl s := by rw [ByteArray.toList_eq]; rfl
theorem size_mk (l : List UInt8) : (⟨l.toArray⟩ : ByteArray).size = l.length := rfl
theorem Ops.alloc {w : World} {v : Value} {l : List Opd} (h : Ops w v l) (o : Obj) : Ops (w.alloc o) v l :=
  ⟨(h.1.keep fun p hp => World.cell?_of_block (Below.heap_alloc w o p.block hp)).more (by simp), h.2⟩
theorem grownBy_chain {w w1 w' : World} (h : w.grownBy w1 none) (k : w1.grownBy w' none) : w.grownBy w' none :=
  ⟨k.os.trans h.os, k.tape.trans h.tape, k.output.trans h.output, Nat.le_trans h.size k.size, fun b hb _ => (k.block b (Nat.lt_of_lt_of_le hb h.size) (by simp)).trans (h.block b hb (by simp))⟩
set_option maxHeartbeats 4000000 in
set_option maxRecDepth 100000 in
theorem lawRow_few (l : List Opd) (a b : Int) (v : Value) (w : World) (h : Ops w v l) (hf : fewB l = false) :
    Calls Try.prog 4 #[v, .agg #[.int .i64 a, .int .i64 b]] w fun e w' => e = .returned (.bool true) ∧ w.grownBy w' none := by
  obtain ⟨w1, hW1⟩ : ∃ w1, w.alloc (.cells #[.int .i64 a, .int .i64 b] 51) = w1 := ⟨_, rfl⟩
  have hb1 : Blk w1 w.heap.size [.int .i64 a, .int .i64 b] 51 := by rw [← hW1]; exact Blk.new w _ _
  have hg1 : w.grownBy w1 none := by rw [← hW1]; exact World.grownBy_alloc w _ none
  have hops : Ops w1 v l := by rw [← hW1]; exact h.alloc _
  have hfw := few_any l v w1 hops
  have haw := awake_any w1
  rw [hf] at hfw
  have k0 := hb1.cell (i := 0) rfl
  have k1 := hb1.cell (i := 1) rfl
  have hz := hb1.lt
  obtain ⟨A, c, rfl, hc, hcm⟩ := h.form
  clear h hops hb1
  replace hg1 := Lib.hid hg1
  go_enter Try.func4, Try.ntmps4
  go_upto_region 1 with fail
  obtain ⟨z, hzz⟩ : ∃ z, w.heap.size = z := ⟨_, rfl⟩
  rw [hzz] at k0 k1 hz ⊢
  clear hW1 hzz
  go_wp2_with (first | (go_at_call 7; refine hfw.mono ?_; rintro e w' ⟨rfl, hw⟩; obtain rfl := hw.symm) | (go_at_call 8; refine haw.mono ?_; rintro e w' ⟨rfl, hg⟩; replace hg := Lib.hid hg))
  go_ret
  exact ⟨rfl, grownBy_chain hg1.out hg.out⟩
set_option maxHeartbeats 4000000 in
set_option maxRecDepth 100000 in
theorem lawRow_a0 (l : List Opd) (a b : Int) (v : Value) (w : World) (h : Ops w v l) (hf : fewB l = true) (ha : a < 1) :
    Calls Try.prog 4 #[v, .agg #[.int .i64 a, .int .i64 b]] w fun e w' => e = .returned (.bool true) ∧ w.grownBy w' none := by
  obtain ⟨w1, hW1⟩ : ∃ w1, w.alloc (.cells #[.int .i64 a, .int .i64 b] 51) = w1 := ⟨_, rfl⟩
  have hb1 : Blk w1 w.heap.size [.int .i64 a, .int .i64 b] 51 := by rw [← hW1]; exact Blk.new w _ _
  have hg1 : w.grownBy w1 none := by rw [← hW1]; exact World.grownBy_alloc w _ none
  have hops : Ops w1 v l := by rw [← hW1]; exact h.alloc _
  have hfw := few_any l v w1 hops
  have haw := awake_any w1
  rw [hf] at hfw
  have k0 := hb1.cell (i := 0) rfl
  have k1 := hb1.cell (i := 1) rfl
  have hz := hb1.lt
  obtain ⟨A, c, rfl, hc, hcm⟩ := h.form
  clear h hops hb1
  replace hg1 := Lib.hid hg1
  go_enter Try.func4, Try.ntmps4
  go_upto_region 1 with fail
  obtain ⟨z, hzz⟩ : ∃ z, w.heap.size = z := ⟨_, rfl⟩
  rw [hzz] at k0 k1 hz ⊢
  clear hW1 hzz
  go_wp2_with (first | (go_at_call 7; refine hfw.mono ?_; rintro e w' ⟨rfl, hw⟩; obtain rfl := hw.symm) | (go_at_call 8; refine haw.mono ?_; rintro e w' ⟨rfl, hg⟩; replace hg := Lib.hid hg))
  go_ret
  exact ⟨rfl, grownBy_chain hg1.out hg.out⟩
set_option maxHeartbeats 4000000 in
set_option maxRecDepth 100000 in
theorem lawRow_a1 (l : List Opd) (a b : Int) (v : Value) (w : World) (h : Ops w v l) (hf : fewB l = true) (ha : ¬ a < 1) (ha2 : 40 < a) :
    Calls Try.prog 4 #[v, .agg #[.int .i64 a, .int .i64 b]] w fun e w' => e = .returned (.bool true) ∧ w.grownBy w' none := by
  obtain ⟨w1, hW1⟩ : ∃ w1, w.alloc (.cells #[.int .i64 a, .int .i64 b] 51) = w1 := ⟨_, rfl⟩
  have hb1 : Blk w1 w.heap.size [.int .i64 a, .int .i64 b] 51 := by rw [← hW1]; exact Blk.new w _ _
  have hg1 : w.grownBy w1 none := by rw [← hW1]; exact World.grownBy_alloc w _ none
  have hops : Ops w1 v l := by rw [← hW1]; exact h.alloc _
  have hfw := few_any l v w1 hops
  have haw := awake_any w1
  rw [hf] at hfw
  have k0 := hb1.cell (i := 0) rfl
  have k1 := hb1.cell (i := 1) rfl
  have hz := hb1.lt
  obtain ⟨A, c, rfl, hc, hcm⟩ := h.form
  clear h hops hb1
  replace hg1 := Lib.hid hg1
  go_enter Try.func4, Try.ntmps4
  go_upto_region 1 with fail
  obtain ⟨z, hzz⟩ : ∃ z, w.heap.size = z := ⟨_, rfl⟩
  rw [hzz] at k0 k1 hz ⊢
  clear hW1 hzz
  go_wp2_with (first | (go_at_call 7; refine hfw.mono ?_; rintro e w' ⟨rfl, hw⟩; obtain rfl := hw.symm) | (go_at_call 8; refine haw.mono ?_; rintro e w' ⟨rfl, hg⟩; replace hg := Lib.hid hg))
  go_ret
  exact ⟨rfl, grownBy_chain hg1.out hg.out⟩
set_option maxHeartbeats 4000000 in
set_option maxRecDepth 100000 in
theorem lawRow_b0 (l : List Opd) (a b : Int) (v : Value) (w : World) (h : Ops w v l) (hf : fewB l = true) (ha : ¬ a < 1) (ha2 : ¬ 40 < a) (hb : b < 1) :
    Calls Try.prog 4 #[v, .agg #[.int .i64 a, .int .i64 b]] w fun e w' => e = .returned (.bool true) ∧ w.grownBy w' none := by
  obtain ⟨w1, hW1⟩ : ∃ w1, w.alloc (.cells #[.int .i64 a, .int .i64 b] 51) = w1 := ⟨_, rfl⟩
  have hb1 : Blk w1 w.heap.size [.int .i64 a, .int .i64 b] 51 := by rw [← hW1]; exact Blk.new w _ _
  have hg1 : w.grownBy w1 none := by rw [← hW1]; exact World.grownBy_alloc w _ none
  have hops : Ops w1 v l := by rw [← hW1]; exact h.alloc _
  have hfw := few_any l v w1 hops
  have haw := awake_any w1
  rw [hf] at hfw
  have k0 := hb1.cell (i := 0) rfl
  have k1 := hb1.cell (i := 1) rfl
  have hz := hb1.lt
  obtain ⟨A, c, rfl, hc, hcm⟩ := h.form
  clear h hops hb1
  replace hg1 := Lib.hid hg1
  go_enter Try.func4, Try.ntmps4
  go_upto_region 1 with fail
  obtain ⟨z, hzz⟩ : ∃ z, w.heap.size = z := ⟨_, rfl⟩
  rw [hzz] at k0 k1 hz ⊢
  clear hW1 hzz
  go_wp2_with (first | (go_at_call 7; refine hfw.mono ?_; rintro e w' ⟨rfl, hw⟩; obtain rfl := hw.symm) | (go_at_call 8; refine haw.mono ?_; rintro e w' ⟨rfl, hg⟩; replace hg := Lib.hid hg))
  go_ret
  exact ⟨rfl, grownBy_chain hg1.out hg.out⟩
set_option maxHeartbeats 4000000 in
set_option maxRecDepth 100000 in
theorem lawRow_b1 (l : List Opd) (a b : Int) (v : Value) (w : World) (h : Ops w v l) (hf : fewB l = true) (ha : ¬ a < 1) (ha2 : ¬ 40 < a) (hb : ¬ b < 1) (hb2 : 40 < b) :
    Calls Try.prog 4 #[v, .agg #[.int .i64 a, .int .i64 b]] w fun e w' => e = .returned (.bool true) ∧ w.grownBy w' none := by
  obtain ⟨w1, hW1⟩ : ∃ w1, w.alloc (.cells #[.int .i64 a, .int .i64 b] 51) = w1 := ⟨_, rfl⟩
  have hb1 : Blk w1 w.heap.size [.int .i64 a, .int .i64 b] 51 := by rw [← hW1]; exact Blk.new w _ _
  have hg1 : w.grownBy w1 none := by rw [← hW1]; exact World.grownBy_alloc w _ none
  have hops : Ops w1 v l := by rw [← hW1]; exact h.alloc _
  have hfw := few_any l v w1 hops
  have haw := awake_any w1
  rw [hf] at hfw
  have k0 := hb1.cell (i := 0) rfl
  have k1 := hb1.cell (i := 1) rfl
  have hz := hb1.lt
  obtain ⟨A, c, rfl, hc, hcm⟩ := h.form
  clear h hops hb1
  replace hg1 := Lib.hid hg1
  go_enter Try.func4, Try.ntmps4
  go_upto_region 1 with fail
  obtain ⟨z, hzz⟩ : ∃ z, w.heap.size = z := ⟨_, rfl⟩
  rw [hzz] at k0 k1 hz ⊢
  clear hW1 hzz
  go_wp2_with (first | (go_at_call 7; refine hfw.mono ?_; rintro e w' ⟨rfl, hw⟩; obtain rfl := hw.symm) | (go_at_call 8; refine haw.mono ?_; rintro e w' ⟨rfl, hg⟩; replace hg := Lib.hid hg))
  go_ret
  exact ⟨rfl, grownBy_chain hg1.out hg.out⟩
end Go.Proofs.Yticoigpkgpdabaa
