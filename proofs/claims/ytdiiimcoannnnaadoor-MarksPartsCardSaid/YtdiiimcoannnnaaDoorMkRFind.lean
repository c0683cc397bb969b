/-
  The reference's Find answers the same place. Conditions: as for Find.
-/
import Derived.Test.YtdiiimcoannnnaaDoorMkFind
import Derived.Deep.QuietTactic
import Derived.BigQuiet
namespace Go.Proofs.YtdiiimcoannnnaaDoor
open Go Go.RowKit

set_option maxHeartbeats 400000 in
theorem rfind_any (l : List Ch) (b : UInt8) (v : Value) (B : Nat) (w : World) (ht : Tx w B v l) :
    Calls Tryd.prog 25 #[v, .int .u8 (b.toNat : Int)] w fun e w' => e = .returned (.int .i64 (findInt l b)) ∧ w = w' := by
  obtain ⟨A, c, rfl, hc, hcm⟩ := ht.form
  unfold maxLen at hcm
  go_enter Tryd.func25, Tryd.ntmps25
  go_wp2
  go_loop [5] (fun i => ∃ k : Nat, k ≤ l.length ∧ k ≤ findCh l b ∧ i = .int .i64 k) (fun i => l.length - (intOf i).toNat)
  case atStart => exact ⟨0, Nat.zero_le _, Nat.zero_le _, rfl⟩
  case round =>
    obtain ⟨k, hk, hkf, rfl⟩ := hrel
    by_cases hlt : k < l.length
    · obtain ⟨blk, off, rfl, hblk, g0, g1⟩ := ht.at_ hlt
      have hs := Lib.hid (@findCh_succ l b k hkf hlt)
      have he := Lib.hid (@findCh_eq l b k hkf hlt)
      generalize l[k] = z at g0 g1 hs he
      obtain ⟨x, q⟩ := z
      by_cases hx : x = b
      · subst hx
        cases q
        · go_wp2
          go_ret
          exact ⟨ret_int (findInt_at (he.out (by simp [hit])) hlt).symm, rfl⟩
        · go_wp2
          go_round
          case rel => exact ⟨k + 1, by omega, hs.out (by simp [hit]), by go_num⟩
          case measure => simp [intOf]; omega
      · have hn : ((x.toNat : Int) == (b.toNat : Int)) = false := by
          rw [beq_eq_false_iff_ne]; intro h; exact hx (UInt8.toNat.inj (by omega))
        have hh := Lib.hid hx
        clear hx
        go_wp2
        go_round
        case rel => exact ⟨k + 1, by omega, hs.out (by have := hh.out; simp [hit, this]), by go_num⟩
        case measure => simp [intOf]; omega
    · go_wp2
      go_ret
      exact ⟨ret_int (findInt_none (by omega)).symm, rfl⟩
end Go.Proofs.YtdiiimcoannnnaaDoor
