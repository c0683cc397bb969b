/-
  The iterator of things hands all things, one behind the other, to its caller's round, until the round says no. Conditions: a text of up to 4096 bytes; the round leaves the iterator's blocks as they are.
-/
import Derived.RangeFuncBound
import Derived.RangeFuncCalls
import Derived.RangeFuncLeaves
import Derived.RangeFuncBox
import Derived.RangeFuncWrites
import Derived.WalkKit
import Derived.OwnWalkIn
import Derived.TacticsInMore
import Derived.LoopNIn
import Derived.LoopIn
import Derived.Deep.LoopGhost
import Derived.Deep.CutBlock
import Derived.Deep.CutRange
import Derived.Deep.RegionHeld3
import Derived.Deep.QuietTactic
import Derived.BigQuiet
import Derived.Test.YtjeleebgifajkaaDoorLxTok
set_option linter.unusedSimpArgs false
set_option linter.unusedVariables false
namespace Go.Proofs.YtjeleebgifajkaaDoor
open Go Go.RowKit

/-- The four cells of a thing, or of the place of what does not end. -/
def tokC (s : ByteArray) (t : Tk) : List Value := if t.1 = 5 then [.int .i64 0, .string ⟨#[]⟩, .int .i64 (t.2.1 : Int), .int .i64 0] else cellTk s t
theorem tokE_agg (s : ByteArray) (t : Tk) : tokE s t = .agg (tokC s t).toArray := by
  unfold tokE tokC
  split <;> rfl

set_option maxHeartbeats 4000000 in
set_option maxRecDepth 100000 in
theorem things1_any (m : Nat) (s : ByteArray) (l Bs n₀ : Nat) (J : List Tk → Nat → World → Prop) (Jx : List Tk → World → Prop) (W0 : World) (hs : s.size ≤ 4096)
    (hJ : ∀ pre b b' W W', J pre b W → Below W.heap.size W W' → (b' = b ∨ W.heap.size ≤ b') → J pre b' W')
    (hB : ∀ pre b W, J pre b W → n₀ ≤ W.heap.size ∧ W.cell? ⟨Bs, 0, none⟩ = some (.string s))
    (hbs : Bs < n₀)
    (hY : ∀ pre x b W, J pre b W → b < W.heap.size → pre.length ≤ 4096 → (∃ rest, seqL s = pre ++ [x] ++ rest ∧ (x.1 = 5 → rest = [])) → YieldAt Fence.wide m Tryd.prog l #[.agg (tokC s x).toArray, .int .i64 (errE x)] W fun e W' =>
      (e = .returned (.bool true) ∧ J (pre ++ [x]) b W' ∧ W'.heap[b]? = W.heap[b]? ∧ W.heap.size ≤ W'.heap.size) ∨ (e = .returned (.bool false) ∧ Jx (pre ++ [x]) W'))
    (h0 : J [] W0.heap.size W0) :
    Calls Tryd.prog 47 #[.func (.yield l) #[] #[], .pointer (some ⟨Bs, 0, none⟩)] W0 fun e W' => (∃ v, e = .returned v) ∧ ((∃ b, J (seqL s) b W') ∨ ∃ pre, Jx pre W') := by
  replace hJ := Lib.hid hJ
  replace hB := Lib.hid hB
  replace hY := Lib.hid hY
  replace h0 := Lib.hid h0
  go_enter Tryd.func47, Tryd.ntmps47
  go_wp2
  go_loopw [3] (fun i wr => ∃ (k n : Nat) (pre : List Tk) (b : Nat), k ≤ s.size ∧ i = .int .i64 (k : Int) ∧ Hid (seqL s = pre ++ seqF n (bl s) k) ∧ Hid (s.size - k < n) ∧ Hid (pre.length ≤ k) ∧ Hid (J pre b wr)) (fun i _ => s.size - (intOf i).toNat)
  case atStart => exact ⟨0, s.size + 1, [], _, Nat.zero_le _, rfl, Lib.hid rfl, Lib.hid (by omega), Lib.hid (Nat.le_refl _), h0⟩
  case round =>
    obtain ⟨k, n, pre, b, hk, rfl, hseq, hn, hpl, hj⟩ := hrel
    clear h0
    obtain ⟨hnb, hcs⟩ := hB.out _ _ _ hj.out
    obtain ⟨n, rfl⟩ : ∃ q, n = q + 1 := ⟨n - 1, by have := hn.out; omega⟩
    have hnx := next_any s k hk (by omega) wr
    obtain ⟨p1, p2, p3, p4, p5⟩ := nextP_le (bl s) k (by rw [bl_len]; exact hk)
    rw [bl_len] at p3
    have hseq0 := hseq.out
    unfold seqF at hseq0
    clear hseq
    rw [tokE_agg] at hnx
    generalize nextP (bl s) k = x at hnx p1 p2 p3 p4 p5 hseq0
    have hpl0 := hpl.out
    have hl3 : Hid (pre.length ≤ 4096) := Lib.hid (by omega)
    replace hnx := Lib.hid hnx
    replace hnb := Lib.hid hnb
    by_cases h5 : x.1 = 5
    · rw [if_pos h5] at hseq0
      have hrest : ∃ rest, seqL s = pre ++ [x] ++ rest ∧ (x.1 = 5 → rest = []) := ⟨[], by rw [List.append_nil]; exact hseq0, fun _ => rfl⟩
      have hy := fun b W h hb => hY.out pre x b W h hb hl3.out hrest
      have e1 : tokC s x = [.int .i64 0, .string ⟨#[]⟩, .int .i64 (x.2.1 : Int), .int .i64 0] := by unfold tokC; rw [if_pos h5]
      have e2 : errE x = 30 := by unfold errE; rw [if_pos h5]
      rw [e1, e2] at hnx
      rw [e1, e2] at hy
      replace hy := Lib.hid hy
      replace hseq0 := Lib.hid hseq0
      clear e1 e2 hrest h5 p4 p5 hY
      go_wp2_with fail
      refine hnx.out.mono ?_
      rintro e w2 ⟨rfl, hb2⟩
      have hbN : Below wr.heap.size wr (w2.alloc (.cells #[.int .i64 0, .string ⟨#[]⟩, .int .i64 (x.2.1 : Int), .int .i64 0] 24)) := hb2.alloc hb2.size _
      have hjN := hJ.out pre b w2.heap.size wr _ hj.out hbN (.inr hb2.size)
      have hyN := hy.out _ _ hjN (by simp)
      obtain ⟨fn, tmps, assign, body, hy1, hR⟩ := hyN
      replace hbN := Lib.hid hbN
      clear hnx hb2 hy
      go_upto_region 3 with fail
      refine (wpIn_wide (n := m + 1)).1 ?_
      gi_wp2
      refine hR.mono ?_
      rintro e W3 (⟨rfl, hJ3, hb3, hs3⟩ | ⟨rfl, hJx3⟩)
      · have hfin := hseq0.out ▸ hJ3
        replace hfin := Lib.hid hfin
        clear hJ3 hb3 hs3 hR hy1 hjN
        gi_wp2
        go_wp2
        refine bodyPost_ret (results_none rfl _ _ _) rfl ?_
        exact ⟨⟨_, rfl⟩, .inl ⟨_, hfin.out⟩⟩
      · replace hJx3 := Lib.hid hJx3
        clear hR hy1 hjN
        gi_wp2
        go_wp2
        refine bodyPost_ret (results_none rfl _ _ _) rfl ?_
        exact ⟨⟨_, rfl⟩, .inr ⟨_, hJx3.out⟩⟩
    · rw [if_neg h5] at hseq0
      have e1 : tokC s x = cellTk s x := by unfold tokC; rw [if_neg h5]
      have e2 : errE x = 0 := by unfold errE; rw [if_neg h5]
      rw [e1, e2] at hnx
      unfold cellTk at hnx e1
      by_cases hz : x.1 = 0
      · rw [if_pos hz, List.append_nil] at hseq0
        rw [hz] at hnx
        have hfin := hseq0 ▸ hj.out
        replace hfin := Lib.hid hfin
        clear e1 e2 h5 hz p4 p5 hY hseq0
        go_wp2_with fail
        refine hnx.out.mono ?_
        rintro e w2 ⟨rfl, hb2⟩
        have hbN : Below wr.heap.size wr (w2.alloc (.cells #[.int .i64 0, .string (s.extract x.2.1 x.2.2), .int .i64 (x.2.1 : Int), .int .i64 (x.2.2 : Int)] 24)) := hb2.alloc hb2.size _
        have hjN := Lib.hid (hJ.out _ _ w2.heap.size wr _ hfin.out hbN (.inr hb2.size))
        replace hbN := Lib.hid hbN
        clear hnx hb2
        go_wp2
        refine bodyPost_ret (results_none rfl _ _ _) rfl ?_
        exact ⟨⟨_, rfl⟩, .inl ⟨_, hjN.out⟩⟩
      · rw [if_neg hz] at hseq0
        have hzi : ¬ ((x.1 : Int) = 0) := by omega
        have hpos := p4 hz h5
        have hrest : ∃ rest, seqL s = pre ++ [x] ++ rest ∧ (x.1 = 5 → rest = []) := ⟨_, by rw [hseq0, List.append_assoc]; rfl, fun h => absurd h h5⟩
        have hseq1 : Hid (seqL s = (pre ++ [x]) ++ seqF n (bl s) x.2.2) := Lib.hid (by rw [hseq0, List.append_assoc]; rfl)
        have hy := fun b W h hb => hY.out pre x b W h hb hl3.out hrest
        rw [e1, e2] at hy
        replace hy := Lib.hid hy
        replace p4 := Lib.hid p4
        clear e1 e2 hrest h5 hz p5 hseq0
        go_wp2_with fail
        refine hnx.out.mono ?_
        rintro e w2 ⟨rfl, hb2⟩
        have hbN : Below wr.heap.size wr (w2.alloc (.cells #[.int .i64 (x.1 : Int), .string (s.extract x.2.1 x.2.2), .int .i64 (x.2.1 : Int), .int .i64 (x.2.2 : Int)] 24)) := hb2.alloc hb2.size _
        have hjN := hJ.out pre b w2.heap.size wr _ hj.out hbN (.inr hb2.size)
        have hyN := hy.out _ _ hjN (by simp)
        have hblk := World.alloc_heap_new w2 (.cells #[.int .i64 (x.1 : Int), .string (s.extract x.2.1 x.2.2), .int .i64 (x.2.1 : Int), .int .i64 (x.2.2 : Int)] 24)
        obtain ⟨fn, tmps, assign, body, hy1, hR⟩ := hyN
        replace hbN := Lib.hid hbN
        replace hblk := Lib.hid hblk
        clear hnx hb2 hy
        go_upto_region 4 with fail
        refine (wpIn_wide (n := m + 1)).1 ?_
        gi_wp2
        refine hR.mono ?_
        rintro e W3 (⟨rfl, hJ3, hb3, hs3⟩ | ⟨rfl, hJx3⟩)
        · have hc3 := hb3.trans hblk.out
          have c3 : W3.cell? ⟨w2.heap.size, 3, none⟩ = some (.int .i64 (x.2.2 : Int)) := by rw [cell_of_row W3 _ 3 _ _ _ hc3]; rfl
          replace hJ3 := Lib.hid hJ3
          generalize w2.heap.size = z at *
          clear hb3 hs3 hR hy1 hjN hblk hc3 hbN
          gi_wp2
          go_wp2
          go_roundw
          case rel => exact ⟨x.2.2, n, pre ++ [x], z, p3, rfl, hseq1, Lib.hid (by have := hn.out; omega), Lib.hid (by rw [List.length_append, List.length_singleton]; have := hpl.out; omega), hJ3⟩
          case measure => simp [intOf]; omega
        · replace hJx3 := Lib.hid hJx3
          clear hR hy1 hjN
          gi_wp2
          go_wp2
          refine bodyPost_ret (results_none rfl _ _ _) rfl ?_
          exact ⟨⟨_, rfl⟩, .inr ⟨_, hJx3.out⟩⟩
end Go.Proofs.YtjeleebgifajkaaDoor
