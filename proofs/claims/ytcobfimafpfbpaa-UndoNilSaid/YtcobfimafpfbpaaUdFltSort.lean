/-
  slices.Sort of at most one float: memory stays as it was. Conditions: at most one element.
-/
import Derived.Test.YtcobfimafpfbpaaUdFltSet
namespace Go.Proofs.Ytcobfimafpfbpaa
open Go Go.RowKit Go.ChangeMaps

section
variable (A : Option Addr) (cc : Nat) (w : World)
set_option maxRecDepth 100000 in
theorem insF (n : Nat) (hn : n ≤ 1) : Calls Try.prog 84 #[.slice A n cc, .int .i64 0, .int .i64 (n : Int)] w fun e w' => e = .returned (.tuple #[]) ∧ w' = w := by
  have h1 : ¬ (1 : Int) < (n : Int) := by omega
  go_enter Try.func84, Try.ntmps84
  go_wp2
  go_loopw [6] (fun nv wr => nv = .int .i64 1 ∧ wr = w) (fun _ _ => 0)
  case atStart => exact ⟨rfl, rfl⟩
  case round =>
    obtain ⟨rfl, rfl⟩ := hrel
    go_wp2
    go_end0
    simp
set_option maxRecDepth 100000 in
theorem pdqF (n : Nat) (hn : n ≤ 1) (r : Int) : Calls Try.prog 72 #[.slice A n cc, .int .i64 0, .int .i64 (n : Int), .int .i64 r] w fun e w' => e = .returned (.tuple #[]) ∧ w' = w := by
  have hi := insF A cc w n hn
  have h1 : (n : Int) ≤ 12 := by omega
  have h2 : wrap64 (n : Int) = (n : Int) := by unfold wrap64; omega
  go_enter Try.func72, Try.ntmps72
  go_wp2
  go_loopw [1, 2, 3] (fun a b c wr => a = .int .i64 0 ∧ b = .int .i64 (n : Int) ∧ c = .int .i64 r ∧ wr = w) (fun _ _ _ _ => 0)
  case atStart => exact ⟨rfl, rfl, rfl, rfl⟩
  case round =>
    obtain ⟨rfl, rfl, rfl, rfl⟩ := hrel
    go_wp2_with fail
    refine hi.mono ?_
    rintro e w' ⟨rfl, hw⟩
    go_wp2
    refine bodyPost_ret (results_none rfl _ _ _) rfl ?_
    simp
set_option maxRecDepth 100000 in
theorem lenF (n : Nat) (hn : n ≤ 1) : Calls Try.prog 70 #[.int .u64 (n : Int)] w fun e w' => (∃ r, e = .returned (.int .i64 r)) ∧ w' = w := by
  have h64 : Calls Try.prog 83 #[.int .u64 (n : Int)] w fun e w' => (∃ r, e = .returned (.int .i64 r)) ∧ w' = w := by
    have hn2 : n = 0 ∨ n = 1 := by omega
    rcases hn2 with rfl | rfl
    · go_enter Try.func83, Try.ntmps83
      go_wp2
      go_ret
      exact ⟨⟨_, rfl⟩, rfl⟩
    · go_enter Try.func83, Try.ntmps83
      go_wp2
      go_ret
      exact ⟨⟨_, rfl⟩, rfl⟩
  go_enter Try.func70, Try.ntmps70
  go_wp2_with fail
  refine h64.mono ?_
  rintro e w' ⟨⟨r, rfl⟩, hw⟩
  obtain rfl := hw.symm
  go_wp2
  go_ret
  exact ⟨⟨_, rfl⟩, rfl⟩
set_option maxRecDepth 100000 in
theorem sortF (n : Nat) (hn : n ≤ 1) : Calls Try.prog 66 #[.slice A n cc] w fun e w' => e = .returned (.tuple #[]) ∧ w' = w := by
  have hl := lenF w n hn
  have hp := pdqF A cc w n hn
  go_enter Try.func66, Try.ntmps66
  go_wp2_with fail
  refine hl.mono ?_
  rintro e w' ⟨⟨r, rfl⟩, hw⟩
  obtain rfl := hw.symm
  go_wp2_with fail
  refine (hp r).mono ?_
  rintro e w' ⟨rfl, hw⟩
  obtain rfl := hw.symm
  go_wp2
  go_end0
  simp
end
end Go.Proofs.Ytcobfimafpfbpaa
