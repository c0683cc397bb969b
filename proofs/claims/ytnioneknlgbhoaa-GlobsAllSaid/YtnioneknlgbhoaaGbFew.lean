/-
  few tells whether a pattern is not too much. Conditions: the pattern lies in memory.
-/
import Derived.Test.YtnioneknlgbhoaaGbAwake
namespace Go.Proofs.Ytnioneknlgbhoaa
open Go Go.RowKit

def small (x : It) : Bool := decide (x.2.2.2.length ≤ 60)
def fewP (p : List It) : Bool := decide (p.length ≤ 60) && p.all small
theorem small_snoc (p : List It) (k : Nat) (h : k < p.length) : (p.take (k + 1)).all small = ((p.take k).all small && small p[k]) := by
  rw [List.take_succ_eq_append_getElem h]; simp only [List.all_append, List.all_cons, List.all_nil, Bool.and_true]

set_option maxHeartbeats 1000000 in
set_option maxRecDepth 100000 in
theorem few_any (p : List It) (v : Value) (B : Nat) (w : World) (ht : Its w B v p) :
    Calls Try.prog 20 #[v] w fun e w' => e = .returned (.bool (fewP p)) ∧ w' = w := by
  obtain ⟨A, c, rfl, hc, hcm⟩ := ht.form
  unfold maxLen at hcm
  by_cases hl : p.length ≤ 60
  · have hF : Hid (fewP p = p.all small) := by rw [Hid, fewP, decide_eq_true hl]; simp
    go_enter Try.func20, Try.ntmps20
    go_wp2
    go_loop [3] (fun i => ∃ k : Nat, k ≤ p.length ∧ i = .int .i64 k ∧ Hid ((p.take k).all small = true)) (fun i => p.length - (intOf i).toNat)
    case atStart => exact ⟨0, Nat.zero_le _, rfl, rfl⟩
    case round =>
      obtain ⟨k, hk, rfl, hall⟩ := hrel
      by_cases hlt : k < p.length
      · obtain ⟨blk, off, u, rfl, hblk, g0, g1, g2, g3, hrg⟩ := ht.at_ hlt
        have hs := Lib.hid (small_snoc p k hlt)
        have hin : small p[k] = false → p.all small = false := fun h => by
          rw [Bool.eq_false_iff]
          intro ha
          rw [List.all_eq_true] at ha
          rw [ha p[k] (List.getElem_mem hlt)] at h
          cases h
        have hin := Lib.hid hin
        obtain ⟨A2, c2, rfl, hc2, hcm2⟩ := hrg.form
        unfold maxLen at hcm2
        generalize p[k] = z at g0 g1 g2 g3 hrg hs hin hc2
        clear g0 g1 g2
        by_cases hz : z.2.2.2.length ≤ 60
        · have hn : Hid ((p.take (k + 1)).all small = true) := by rw [Hid, hs.out, hall.out]; simp [small, hz]
          clear hs hin hall
          go_wp2
          go_round
          case rel => exact ⟨k + 1, by omega, by go_num, hn⟩
          case measure => simp [intOf]; omega
        · have hn : Hid (fewP p = false) := by rw [Hid, hF.out]; exact hin.out (by simp [small, hz])
          clear hs hin hall
          go_wp2
          go_ret
          exact ⟨ret_bool hn.out.symm, rfl⟩
      · have hn : Hid (fewP p = true) := by
          have := hall.out
          rw [List.take_of_length_le (by omega)] at this
          rw [Hid, hF.out, this]
        clear hall
        go_wp2
        go_ret
        exact ⟨ret_bool hn.out.symm, rfl⟩
  · have hF : Hid (fewP p = false) := by rw [Hid, fewP, decide_eq_false hl]; rfl
    go_enter Try.func20, Try.ntmps20
    go_wp2
    go_ret
    exact ⟨ret_bool hF.out.symm, rfl⟩
end Go.Proofs.Ytnioneknlgbhoaa
