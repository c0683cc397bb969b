/-
  The reference's is and in: a bare byte at a place, a byte in ranges. Conditions: the text, the ranges lie in memory.
-/
import Derived.Test.YtmoihdddmeienaaGreatDoorGbRd
import Derived.Test.YtmoihdddmeienaaGreatDoorGbFits
namespace Go.Proofs.YtmoihdddmeienaaGreatDoor
open Go Go.RowKit

set_option maxHeartbeats 400000 in
theorem isRef_any {w : World} {v : Value} {B : Nat} {l : List Ch} (ht : Tx w B v l) (k : Nat) (b : UInt8) (_hl : l.length ≤ 1000000) (_hk : k ≤ 2000000) :
    Calls Tryz.prog 23 #[v, .int .i64 (k : Int), .int .u8 (b.toNat : Int)] w fun e w' => e = .returned (.bool (bareAt l k b)) ∧ w' = w := by
  obtain ⟨A, c, rfl, hc, hcm⟩ := ht.form
  unfold maxLen at hcm
  by_cases hlt : k < l.length
  · obtain ⟨blk, off, rfl, hblk, g0, g1⟩ := ht.at_ hlt
    have hb := Lib.hid (bareAt_some hlt b)
    generalize l[k] = z at g0 g1 hb
    obtain ⟨x, q⟩ := z
    simp only at g0 g1
    by_cases hx : x = b
    · subst hx
      cases q
      all_goals
        go_enter Tryz.func23, Tryz.ntmps23
        go_wp2
        go_ret
        exact ⟨ret_bool (by rw [hb.out]; try simp), rfl⟩
    · have hxi : ¬ (x.toNat : Int) = (b.toNat : Int) := fun e => hx (UInt8.toNat.inj (by omega))
      have hb2 : Hid (bareAt l k b = false) := by rw [Hid, hb.out]; simp [hx]
      clear hx hb
      cases q
      all_goals
        go_enter Tryz.func23, Tryz.ntmps23
        go_wp2
        go_ret
        exact ⟨ret_bool (by rw [hb2.out]; try simp [hxi]), rfl⟩
  · have hb := Lib.hid (bareAt_none hlt b)
    go_enter Tryz.func23, Tryz.ntmps23
    go_wp2
    go_ret
    exact ⟨ret_bool (by rw [hb.out]), rfl⟩

set_option maxHeartbeats 1000000 in
set_option maxRecDepth 100000 in
theorem inRef_any (l : List Rg) (b : UInt8) (v : Value) (B : Nat) (w : World) (ht : Rgs w B v l) :
    Calls Tryz.prog 42 #[v, .int .u8 (b.toNat : Int)] w fun e w' => e = .returned (.bool (inR l b)) ∧ w' = w := by
  obtain ⟨A, c, rfl, hc, hcm⟩ := ht.form
  unfold maxLen at hcm
  go_enter Tryz.func42, Tryz.ntmps42
  go_wp2
  go_loop [5] (fun i => ∃ k : Nat, k ≤ l.length ∧ i = .int .i64 k ∧ Hid (inR (l.take k) b = false)) (fun i => l.length - (intOf i).toNat)
  case atStart => exact ⟨0, Nat.zero_le _, rfl, rfl⟩
  case round =>
    obtain ⟨k, hk, rfl, hall⟩ := hrel
    by_cases hlt : k < l.length
    · obtain ⟨blk, off, rfl, hblk, g0, g1⟩ := ht.at_ hlt
      have hs := Lib.hid (inR_snoc l k hlt b)
      have hin : (decide (l[k].1.toNat ≤ b.toNat) && decide (b.toNat ≤ l[k].2.toNat)) = true → inR l b = true := fun h => by
        rw [inR, List.any_eq_true]
        exact ⟨l[k], List.getElem_mem hlt, h⟩
      have hin := Lib.hid hin
      generalize l[k] = z at g0 g1 hs hin
      obtain ⟨x, y⟩ := z
      simp only at g0 g1
      by_cases hx : x.toNat ≤ b.toNat
      · by_cases hy : b.toNat ≤ y.toNat
        · have hn : Hid (inR l b = true) := hin.out (by simp [hx, hy])
          clear hs hin hall
          go_wp2
          go_ret
          exact ⟨ret_bool hn.out.symm, rfl⟩
        · have hn : Hid (inR (l.take (k + 1)) b = false) := by rw [Hid, hs.out, hall.out]; simp [hy]
          clear hs hin hall
          go_wp2
          go_round
          case rel => exact ⟨k + 1, by omega, by go_num, hn⟩
          case measure => simp [intOf]; omega
      · have hn : Hid (inR (l.take (k + 1)) b = false) := by rw [Hid, hs.out, hall.out]; simp [hx]
        clear hs hin hall
        go_wp2
        go_round
        case rel => exact ⟨k + 1, by omega, by go_num, hn⟩
        case measure => simp [intOf]; omega
    · have hn : Hid (inR l b = false) := by
        have := hall.out
        rw [List.take_of_length_le (by omega)] at this
        exact this
      clear hall
      go_wp2
      go_ret
      exact ⟨ret_bool hn.out.symm, rfl⟩
end Go.Proofs.YtmoihdddmeienaaGreatDoor
