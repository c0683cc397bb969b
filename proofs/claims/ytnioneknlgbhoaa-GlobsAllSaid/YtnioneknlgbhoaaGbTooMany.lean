/-
  tooMany tells whether there are more than 4096 texts. Conditions: at most 300 bytes; most is an int that is not less than 0.
-/
import Derived.Test.YtnioneknlgbhoaaGbAllPure
namespace Go.Proofs.Ytnioneknlgbhoaa
open Go Go.RowKit

theorem cnt_zero (m : Nat) : cnt 0 (m + 1) = 1 := by
  induction m with
  | zero => rfl
  | succ m ih => rw [cnt, ih]; simp

set_option maxHeartbeats 1000000 in
set_option maxRecDepth 100000 in
theorem tooMany_any (n most : Nat) (w : World) (hn : n ≤ 300) :
    Calls Try.prog 49 #[.int .i64 (n : Int), .int .i64 (most : Int)] w fun e w' => e = .returned (.bool (decide (4096 < cnt n (most + 1)))) ∧ w' = w := by
  obtain ⟨b, hb0⟩ : ∃ b, decide (4096 < cnt n (most + 1)) = b := ⟨_, rfl⟩
  rw [hb0]
  have hb := Lib.hid hb0
  clear hb0
  go_enter Try.func49, Try.ntmps49
  go_wp2
  go_loopw [5, 6, 7] (fun sv rv iv wr => ∃ i r s : Nat, i ≤ most + 1 ∧ i ≤ 4097 ∧ iv = .int .i64 i ∧ rv = .int .i64 r ∧ sv = .int .i64 s ∧ s ≤ 4096 ∧ r ≤ 1228800 ∧ wr = w ∧ Hid (r = n ^ i ∧ s = cnt n i)) (fun _ _ iv _ => 5000 - (intOf iv).toNat)
  case atStart => exact ⟨0, 1, 0, Nat.zero_le _, by omega, rfl, rfl, rfl, by omega, by omega, rfl, ⟨rfl, rfl⟩⟩
  case round =>
    obtain ⟨i, r, s, hi, hi2, rfl, rfl, rfl, hs, hr, rfl, hq⟩ := hrel
    by_cases h1 : i ≤ most
    · by_cases h2 : 0 < r
      · by_cases h3 : 4096 < s + r
        · have hbt : b = true := by
            rw [← hb.out, decide_eq_true_eq]
            have h4 := cnt_mono n (show i + 1 ≤ most + 1 by omega)
            have h5 : cnt n (i + 1) = cnt n i + n ^ i := rfl
            have := hq.out
            omega
          subst hbt
          clear hq hb
          go_wp2
          go_ret
          exact ⟨rfl, rfl⟩
        · have hq2 : Hid (r * n = n ^ (i + 1) ∧ s + r = cnt n (i + 1)) := ⟨by rw [hq.out.1, Nat.pow_succ], by rw [hq.out.1, hq.out.2]; rfl⟩
          have hrn : r * n ≤ 4096 * 300 := Nat.mul_le_mul (by omega) hn
          have hi4 : i ≤ 4096 := by
            rcases Nat.eq_zero_or_pos n with h0 | h0
            · rcases Nat.eq_zero_or_pos i with h6 | h6
              · omega
              · have := hq.out.1; rw [h0, Nat.zero_pow h6] at this; omega
            · have := cnt_ge n h0 i; have := hq.out.2; omega
          have k5 : IntKind.i64.wrap ((r : Int) * (n : Int)) = ((r * n : Nat) : Int) := by rw [Int.natCast_mul]; exact IntWalk.i64_in _ (by rw [← Int.natCast_mul]; omega)
          clear hq
          go_wp2
          go_roundw
          case rel => exact ⟨i + 1, r * n, s + r, by omega, by omega, by go_num, by first | exact congrArg (Value.int .i64) k5 | go_num, by go_num, by omega, by omega, trivial, hq2⟩
          case measure => simp [intOf]; omega
      · have hbf : b = false := by
          rw [← hb.out, decide_eq_false_iff_not]
          have h4 := hq.out.1
          have hn0 : n = 0 := by
            rcases Nat.eq_zero_or_pos n with h0 | h0
            · exact h0
            · have : 0 < n ^ i := Nat.pow_pos h0
              omega
          rw [hn0, cnt_zero]
          omega
        subst hbf
        clear hq hb
        go_wp2
        go_ret
        exact ⟨rfl, rfl⟩
    · have hbf : b = false := by
        rw [← hb.out, decide_eq_false_iff_not]
        have h4 := hq.out.2
        rw [show most + 1 = i by omega]
        omega
      subst hbf
      clear hq hb
      go_wp2
      go_ret
      exact ⟨rfl, rfl⟩
end Go.Proofs.Ytnioneknlgbhoaa
