/-
  The iterator of texts hands the texts of up to most bytes, the shorter ones first, to its caller's round. Conditions: there are no more than 4096 of them; the round leaves the queue and the boxes as they are and says that it goes on.
-/
import Derived.RangeFuncBound
import Derived.RangeFuncCalls
import Derived.RangeFuncLeaves
import Derived.RangeFuncBox
import Derived.WalkKit
import Derived.OwnWalkIn
import Derived.TacticsInMore
import Derived.LoopNIn
import Derived.LoopIn
import Derived.Deep.LoopGhost
import Derived.Deep.CutBlock
import Derived.Deep.CutRange
import Derived.Deep.RegionHeld3
import Derived.Deep.QuietTactic
import Derived.BigQuiet
import Derived.Test.YtnioneknlgbhoaaGbQueue
namespace Go.Proofs.Ytnioneknlgbhoaa
open Go Go.RowKit

theorem grownBy_trans {a b c : World} {r : Option Nat} (h : a.grownBy b r) (k : b.grownBy c r) : a.grownBy c r :=
  ⟨k.os.trans h.os, k.tape.trans h.tape, k.output.trans h.output, Nat.le_trans h.size k.size, fun i hi hr => (k.block i (Nat.lt_of_lt_of_le hi h.size) hr).trans (h.block i hi hr)⟩
theorem grownBy_drew (a : World) (r : Option Nat) : a.grownBy a.drew r := ⟨rfl, rfl, rfl, Nat.le_refl _, fun _ _ _ => rfl⟩
theorem grownBy_drewN (a : World) (n : Nat) (r : Option Nat) : a.grownBy (a.drewN n) r := ⟨rfl, rfl, rfl, Nat.le_refl _, fun _ _ _ => rfl⟩

set_option maxHeartbeats 4000000 in
set_option maxRecDepth 100000 in
theorem texts1_any (m : Nat) (al : ByteArray) (most l Bm Ba n₀ : Nat) (J : List ByteArray → Nat → World → Prop) (W0 : World)
    (hsmall : cnt al.size (most + 1) ≤ 4096) (ha : al.size ≤ 300)
    (hJ : ∀ pre b b' W W', J pre b W → W.grownBy W' (some b) → (b' = b ∨ W.heap.size ≤ b') → J pre b' W')
    (hB : ∀ pre b W, J pre b W → n₀ ≤ b ∧ W.cell? ⟨Bm, 0, none⟩ = some (.int .i64 (most : Int)) ∧ W.cell? ⟨Ba, 0, none⟩ = some (.string al))
    (hba : Ba < n₀)
    (hY : ∀ pre x b W, J pre b W → b < W.heap.size → x ∈ bef al (most + 1) → pre.length < 4096 → YieldAt Fence.wide m Try.prog l #[.string x] W fun e W' => e = .returned (.bool true) ∧ J (pre ++ [x]) b W' ∧ W'.heap[b]? = W.heap[b]? ∧ W.heap.size ≤ W'.heap.size)
    (h0 : J [] W0.heap.size W0) :
    Calls Try.prog 61 #[.func (.yield l) #[] #[], .pointer (some ⟨Bm, 0, none⟩), .pointer (some ⟨Ba, 0, none⟩)] W0 fun e W' => (∃ v, e = .returned v) ∧ ∃ b, J (bef al (most + 1)) b W' := by
  go_enter Try.func61, Try.ntmps61
  go_wp2
  go_loopg [4] 5000 (fun k lv wr => ∃ (pre q : List ByteArray) (b : Nat), k = 5000 - pre.length ∧ QRow wr b lv q ∧ J pre b wr ∧ b < wr.heap.size ∧ Hid (QS al most pre q))
  case atStart =>
    exact ⟨[], [⟨#[]⟩], W0.heap.size, rfl, QRow.first W0 ⟨#[]⟩, hJ _ _ _ _ _ h0 (World.grownBy_alloc W0 _ _) (.inl rfl), by simp, QS.start al most⟩
  case round =>
    obtain ⟨pre, q, b, hk, hq, hj, hlt, hs⟩ := hrel
    obtain ⟨hnb, hcm, hca⟩ := hB _ _ _ hj
    cases q with
    | nil =>
      have hd := hs.out.done
      subst hd
      obtain ⟨off, c, rfl, _, _, _⟩ := hq.form
      go_wp2
      go_end0
      exact ⟨⟨_, rfl⟩, b, hj⟩
    | cons t q =>
      have hlen := hs.out.len
      rw [List.length_cons] at hlen
      obtain ⟨off, c, rfl, hc, hcm2, hcell⟩ := hq.form
      have hcell0 := hcell 0 (by simp)
      rw [List.length_cons] at hq hc
      rw [Nat.add_zero, List.getElem_cons_zero] at hcell0
      obtain ⟨fn, tmps, assign, body, hy1, hR⟩ := hY pre t b wr hj hlt hs.out.mem (by omega)
      go_upto_region 3 with fail
      refine (wpIn_wide (n := m + 1)).1 ?_
      gi_wp2
      refine hR.mono ?_
      rintro e W3 ⟨rfl, hJ3, hb3, hs3⟩
      gi_wp2
      obtain ⟨hnb3, hcm3, hca3⟩ := hB _ _ _ hJ3
      have hq3 := hq.keep hs3 hb3
      have hcl3 : W3.cell? ⟨b, off, none⟩ = some (.string t) := (World.cell?_of_block (a := ⟨b, off, none⟩) hb3).trans hcell0
      have hl3 : b < W3.heap.size := by omega
      obtain ⟨hst, hse, hsl⟩ := hs.out.step
      clear hcell hcell0 hcm hca hj hq hb3 hR hy1 hs hlt hnb hs3
      by_cases he : t.size = most
      · have hqs := Lib.hid (hse he)
        have hq4 := hq3.tail
        have hne : (t.size : Int) = (most : Int) := by omega
        clear hse hsl hst hq3
        by_cases e1 : c = 1
        · subst e1
          have hq0 : q = [] := List.eq_nil_of_length_eq_zero (by omega)
          subst hq0
          have hq5 : QRow W3 b (.slice (some ⟨b, off, none⟩) 0 0) [] := by simpa [sliced] using hq4
          clear hq4
          go_wp2
          go_quiet (fail)
          go_wp2
          go_roundg (5000 - (pre.length + 1))
          case measure => omega
          case rel => exact ⟨pre ++ [t], [], b, by simp, hq5, hJ _ _ _ _ _ hJ3 (grownBy_drewN _ _ _) (.inl rfl), hl3, hqs⟩
        · have hq5 : QRow W3 b (.slice (some ⟨b, off + 1, none⟩) q.length (c - 1)) q := by simpa [sliced, e1, add_plain0] using hq4
          clear hq4
          go_wp2
          go_quiet (fail)
          go_wp2
          go_roundg (5000 - (pre.length + 1))
          case measure => omega
          case rel => exact ⟨pre ++ [t], q, b, by simp, hq5, hJ _ _ _ _ _ hJ3 (grownBy_drewN _ _ _) (.inl rfl), hl3, hqs⟩
      · have hqs := Lib.hid (hsl (by omega))
        have hne : ¬ (t.size : Int) = (most : Int) := by omega
        have hne2 : ((t.size : Int) == (most : Int)) = false := by rw [beq_eq_false_iff_ne]; exact hne
        have hqk : QRow W3 b (.slice (some ⟨b, off, none⟩) (q.length + 1) c) (t :: q ++ kidsB al t 0) := by simpa [kidsB] using hq3
        clear hse hsl hq3
        go_wp2
        go_quiet (fail)
        go_wp2
        generalize hWW : W3.drewN nq = W4
        have hj4 : J (pre ++ [t]) b W4 := by rw [← hWW]; exact hJ _ _ _ _ _ hJ3 (grownBy_drewN _ _ _) (.inl rfl)
        have hq4 : QRow W4 b (.slice (some ⟨b, off, none⟩) (q.length + 1) c) (t :: q ++ kidsB al t 0) := by rw [← hWW]; exact hqk
        have hl4 : b < W4.heap.size := by rw [← hWW]; exact hl3
        clear hWW hJ3 hqk hl3 hcl3 hcm3 hca3 hnb3
        go_loopw [26, 4] (fun iv lv wi => ∃ (k bb : Nat), k ≤ al.size ∧ iv = .int .i64 k ∧ QRow wi bb lv (t :: q ++ kidsB al t k) ∧ J (pre ++ [t]) bb wi ∧ bb < wi.heap.size) (fun iv _ _ => al.size - (intOf iv).toNat)
        case atStart => exact ⟨0, b, Nat.zero_le _, rfl, hq4, hj4, hl4⟩
        case round =>
          obtain ⟨k, bb, hk2, rfl, hqk2, hj5, hl5⟩ := hrel
          clear hj4 hq4 hl4
          obtain ⟨hnb5, hcm5, hca5⟩ := hB _ _ _ hj5
          obtain ⟨off5, c5, rfl, hc5, hcm5b, hcell5⟩ := hqk2.form
          have hcl5 := hcell5 0 (by simp)
          rw [Nat.add_zero, show (t :: q ++ kidsB al t k)[0]'(by simp) = t from rfl] at hcl5
          have hN : (t :: q ++ kidsB al t k).length = q.length + 1 + k := by rw [List.length_append, kidsB_len, List.length_cons]
          rw [hN] at hqk2 hc5 ⊢
          clear hcell5
          have hkb : q.length + 1 + k ≤ 4397 := by omega
          obtain ⟨N, hN2⟩ : ∃ N, q.length + 1 + k = N := ⟨_, rfl⟩
          rw [hN2] at hqk2 hc5 hN hkb ⊢
          have i1 : (0 : Int) < (N : Int) := by omega
          clear hN2
          by_cases hlt5 : k < al.size
          · have hsnoc := Lib.hid (kidsB_succ al t k)
            have hkeep : ∀ o : Obj, QRow ((wr.alloc o).drew) bb (.slice (some ⟨bb, off5, none⟩) N c5) (t :: q ++ kidsB al t k) := fun o => hqk2.keep (by simp) (Below.heap_alloc wr o bb hl5)
            have hbq : N + 1 ≤ 1000000 := by omega
            have i2 : IntKind.i64.wrap ((k : Int) + 1) = (k : Int) + 1 := IntWalk.i64_in _ (by omega)
            have i3 : (0 : Int) ≤ (k : Int) := by omega
            have i4 : (k : Int) ≤ (k : Int) + 1 := by omega
            have i5 : (k : Int) + 1 ≤ (al.size : Int) := by omega
            have i6 : ((k : Int) + 1).toNat = k + 1 := by omega
            have i7 : ∀ W, (Op.stringOp .add t (al.extract k (k + 1))).run Try.prog W = .ok (.string (t ++ al.extract k (k + 1))) W := fun W => run_string_add_sum W _ _ (by
              have h1 := cnt_ge al.size (by omega) (most + 1)
              have h2 : (al.extract k (k + 1)).size ≤ 1 := by rw [ByteArray.size_extract]; omega
              omega)
            have i8 : 0 < N := by omega
            go_wp2_with fail
            go_region_held3 (fun w' => w'.cell? ⟨bb, off5, none⟩ = some (.string t) ∧ w'.cell? ⟨Ba, 0, none⟩ = some (.string al))
              (first
                | go_keep
                | (go_split_ands
                   refine ⟨?_, ?_⟩
                   · (have h9 := hat off5 c5 (by rw [hN]) 0 (by simp); rw [Nat.add_zero] at h9; rw [h9]; assumption)
                   · (exact hgrow.cell (by assumption) (by simp; omega))))
              ((refine step_append_q (by rfl) _ _ (by rfl) (b := bb) (v := .slice (some ⟨bb, off5, none⟩) N c5) (q := t :: q ++ kidsB al t k) (by rfl) (hkeep _) ⟨wr.heap.size, 0, none⟩ (t ++ al.extract k (k + 1)) (by rfl) (by simp) (by rw [hN]; exact hbq) ?_; intro v' b' w1 hq1 hgrow hbb hat))
            have hgr : wr.grownBy w1 (some bb) := grownBy_trans (World.grownBy_alloc wr _ _) (grownBy_trans (grownBy_drew _ _) hgrow)
            have hlt9 : b' < w1.heap.size := by obtain ⟨_, _, _, _, _, h9, _⟩ := hq1; exact h9
            have hj6 := hJ _ _ b' _ _ hj5 hgr (hbb.imp id (fun h9 => by rw [h9]; simp))
            have hq2 : QRow w1 b' v' (t :: q ++ kidsB al t (k + 1)) := by rw [hsnoc.out, ← List.append_assoc]; exact hq1
            clear hq1 hgrow hbb hat hkeep hgr hj5 hqk2
            go_wp2
            go_roundw
            case rel =>
              exact ⟨k + 1, b', by omega, by go_num, hq2, hj6, hlt9⟩
            case measure => simp [intOf]; omega
          · obtain rfl : k = al.size := by omega
            have hqe : QRow wr bb (.slice (some ⟨bb, off5, none⟩) N c5) (t :: (q ++ kidsA al t)) := hqk2
            have hN3 : N = (q ++ kidsA al t).length + 1 := by rw [← hN]; rfl
            have i8 : 0 < N := by omega
            subst hN3
            have hq6 := hqe.tail
            clear hqk2 hqe hN
            by_cases e1 : c5 = 1
            · subst e1
              have hq0 : q ++ kidsA al t = [] := List.eq_nil_of_length_eq_zero (by omega)
              rw [hq0] at hq6 hqs ⊢
              have hq5 : QRow wr bb (.slice (some ⟨bb, off5, none⟩) 0 0) [] := by simpa [sliced] using hq6
              clear hq6
              go_wp2
              go_roundg (5000 - (pre.length + 1))
              case measure => omega
              case rel => exact ⟨pre ++ [t], [], bb, by simp, hq5, hj5, hl5, hqs⟩
            · generalize q ++ kidsA al t = qq at hq6 hqs i1 i8 hc5 hkb ⊢
              have hq5 : QRow wr bb (.slice (some ⟨bb, off5 + 1, none⟩) qq.length (c5 - 1)) qq := by simpa [sliced, e1, add_plain0] using hq6
              clear hq6
              go_wp2
              go_roundg (5000 - (pre.length + 1))
              case measure => omega
              case rel => exact ⟨pre ++ [t], qq, bb, by simp, hq5, hj5, hl5, hqs⟩
end Go.Proofs.Ytnioneknlgbhoaa
