/-
  The reference's Read answers the same text and error. Conditions: at most a million bytes.
-/
import Derived.Test.YtdiiimcoannnnaaDoorMkRead
import Derived.Test.YtdiiimcoannnnaaDoorMkROf
namespace Go.Proofs.YtdiiimcoannnnaaDoor
open Go Go.RowKit

set_option maxHeartbeats 1000000 in
set_option maxRecDepth 100000 in
theorem rread_any (s : ByteArray) (w : World) (hs : s.size ≤ 1000000) :
    Calls Tryd.prog 29 #[.string s] w (ReadPost s w.heap.size w) := by
  obtain ⟨i0, hi, hz0, hz1, hz2⟩ := info_parts infoRCh
  go_enter Tryd.func29, Tryd.ntmps29
  go_wp2
  go_loopw [4, 5] (fun o i wr => ∃ (k : Nat) (acc : List Ch), k ≤ s.size ∧ acc.length ≤ k ∧ i = .int .i64 k ∧ Below w.heap.size w wr ∧ wr.ownsRow w.heap.size 65 2 o acc.length (cellsCh acc) ∧ Hid (Rd 0 s.data.toList acc k)) (fun _ i _ => s.size - (intOf i).toNat)
  case atStart => exact ⟨0, [], Nat.zero_le _, Nat.le_refl _, rfl, Below.refl _ _, World.ownsRow_nil _ _ _ _, Rd.start⟩
  case round =>
    obtain ⟨k, acc, hk, hal, rfl, hb, hown, hrd⟩ := hrel
    have hsz := hb.size
    by_cases hlt : k < s.size
    · have hat := Lib.hid (byte_at s k hlt)
      by_cases h39 : s[k] = 39
      · have e39 : ((s[k].toNat : Int) == 39) = true := by rw [h39]; rfl
        rw [h39] at hat
        have hrd1 := Lib.hid (hrd.out.quote hat.out)
        clear h39 hat hrd
        go_wp2
        go_loopw [4, 5] (fun o i wr => ∃ (j : Nat) (acc : List Ch), k + 1 ≤ j ∧ j ≤ s.size ∧ acc.length ≤ j ∧ i = .int .i64 j ∧ Below w.heap.size w wr ∧ wr.ownsRow w.heap.size 65 2 o acc.length (cellsCh acc) ∧ Hid (Rd 2 s.data.toList acc j)) (fun _ i _ => s.size - (intOf i).toNat)
        case atStart => exact ⟨k + 1, acc, Nat.le_refl _, by omega, by omega, by go_num, hb, hown, hrd1.out⟩
        case round =>
          clear hb hown hrd1 hal hsz
          obtain ⟨j, acc2, hkj, hj, hal2, rfl, hb, hown, hrd2⟩ := hrel
          have hsz := hb.size
          by_cases hlt2 : j < s.size
          · have hat2 := Lib.hid (byte_at s j hlt2)
            by_cases h39 : s[j] = 39
            · have e39b : ((s[j].toNat : Int) != 39) = false := by rw [h39]; rfl
              rw [h39] at hat2
              have hrd3 := Lib.hid (hrd2.out.close hat2.out)
              clear h39
              go_wp2
              go_roundw
              case rel => exact ⟨j + 1, acc2, by omega, by omega, by go_num, hb, hown, hrd3.out⟩
              case measure => simp [intOf]; omega
            · have e39b : ((s[j].toNat : Int) != 39) = true := by rw [bne_iff_ne]; exact u8_ne (n := 39) h39
              have hrd3 := Lib.hid (hrd2.out.within hat2.out h39)
              clear h39
              go_wp2_with (at_builtin; refine wpList_append_own _ rfl _ _ 25 rfl w.heap.size 65 i0 (.agg #[.int .u8 0, .bool false]) 2 2 Tryd.underlying25 hi hz0 hz1 hz2 rfl (by decide) _ _ _ rfl (hown.alloc _) ⟨wr.heap.size, 0, none⟩ 1 1 [.int .u8 ((s[j]).toNat : Int), .bool true] rfl rfl (new_cells wr #[.int .u8 ((s[j]).toNat : Int), .bool true] _) ?c2 ?c3 ?c4 ?c5 ?_)
              case c2 => simp [Value.oneCell']
              case c3 => simp only [maxLen]; omega
              case c4 => omega
              case c5 => first | omega | (simp; omega)
              intro v' w1 hown1 hgrow _
              have hb1 : Below w.heap.size w w1 := (hb.alloc hsz _).grown hgrow (by simp; omega) (fun g h => (hown.lt g h).1)
              have hown2 : w1.ownsRow w.heap.size 65 2 v' (acc2 ++ [(s[j], true)]).length (cellsCh (acc2 ++ [(s[j], true)])) := by rw [cells_app, List.length_append]; exact hown1
              clear hown hown1 hgrow hb
              go_wp2
              go_roundw
              case rel => exact ⟨j + 1, _, by omega, by omega, by rw [List.length_append, List.length_singleton]; omega, by go_num, hb1, hown2, hrd3.out⟩
              case measure => simp [intOf]; omega
          · have hnone := Lib.hid (hrd2.out.more2 (by rw [data_len]; omega))
            have hje : ((j : Int) == (s.size : Int)) = true := by simp; omega
            go_wp2
            go_ret2
            exact readPost_none hnone.out hb
      · have e39 : ((s[k].toNat : Int) == 39) = false := u8_neb (n := 39) h39
        by_cases h92 : s[k] = 92
        · have e92 : ((s[k].toNat : Int) == 92) = true := by rw [h92]; rfl
          rw [h92] at hat
          have hrd1 := Lib.hid (hrd.out.back hat.out)
          clear h92 h39
          by_cases hend : k + 1 < s.size
          · have hat1 := Lib.hid (byte_at s (k + 1) hend)
            by_cases h10 : s[k + 1] = 10
            · have e10 : ((s[k + 1].toNat : Int) != 10) = false := by rw [h10]; rfl
              rw [h10] at hat1
              have hrd2 := Lib.hid (hrd1.out.feed hat1.out)
              clear h10
              go_wp2
              go_roundw
              case rel => exact ⟨k + 2, acc, by omega, by omega, by go_num, hb, hown, hrd2.out⟩
              case measure => simp [intOf]; omega
            · have e10 : ((s[k + 1].toNat : Int) != 10) = true := by
                rw [bne_iff_ne]; exact u8_ne (n := 10) h10
              have hrd2 := Lib.hid (hrd1.out.byte hat1.out h10)
              clear h10
              go_wp2_with (at_builtin; refine wpList_append_own _ rfl _ _ 25 rfl w.heap.size 65 i0 (.agg #[.int .u8 0, .bool false]) 2 2 Tryd.underlying25 hi hz0 hz1 hz2 rfl (by decide) _ _ _ rfl (hown.alloc _) ⟨wr.heap.size, 0, none⟩ 1 1 [.int .u8 ((s[k + 1]).toNat : Int), .bool true] rfl rfl (new_cells wr #[.int .u8 ((s[k + 1]).toNat : Int), .bool true] _) ?c2 ?c3 ?c4 ?c5 ?_)
              case c2 => simp [Value.oneCell']
              case c3 => simp only [maxLen]; omega
              case c4 => omega
              case c5 => first | omega | (simp; omega)
              intro v' w1 hown1 hgrow _
              have hb1 : Below w.heap.size w w1 := (hb.alloc hsz _).grown hgrow (by simp; omega) (fun g h => (hown.lt g h).1)
              have hown2 : w1.ownsRow w.heap.size 65 2 v' (acc ++ [(s[k + 1], true)]).length (cellsCh (acc ++ [(s[k + 1], true)])) := by rw [cells_app, List.length_append]; exact hown1
              clear hown hown1 hgrow hb
              go_wp2
              go_roundw
              case rel => exact ⟨k + 2, _, by omega, by rw [List.length_append, List.length_singleton]; omega, by go_num, hb1, hown2, hrd2.out⟩
              case measure => simp [intOf]; omega
          · have hnone := Lib.hid (hrd1.out.more1 (by rw [data_len]; omega))
            go_wp2
            go_ret2
            exact readPost_none hnone.out hb
        · have e92 : ((s[k].toNat : Int) == 92) = false := u8_neb (n := 92) h92
          have hrd1 := Lib.hid (hrd.out.bare hat.out h39 h92)
          clear h92 h39
          go_wp2_with (at_builtin; refine wpList_append_own _ rfl _ _ 25 rfl w.heap.size 65 i0 (.agg #[.int .u8 0, .bool false]) 2 2 Tryd.underlying25 hi hz0 hz1 hz2 rfl (by decide) _ _ _ rfl (hown.alloc _) ⟨wr.heap.size, 0, none⟩ 1 1 [.int .u8 ((s[k]).toNat : Int), .bool false] rfl rfl (new_cells wr #[.int .u8 ((s[k]).toNat : Int), .bool false] _) ?c2 ?c3 ?c4 ?c5 ?_)
          case c2 => simp [Value.oneCell']
          case c3 => simp only [maxLen]; omega
          case c4 => omega
          case c5 => first | omega | (simp; omega)
          intro v' w1 hown1 hgrow _
          have hb1 : Below w.heap.size w w1 := (hb.alloc hsz _).grown hgrow (by simp; omega) (fun g h => (hown.lt g h).1)
          have hown2 : w1.ownsRow w.heap.size 65 2 v' (acc ++ [(s[k], false)]).length (cellsCh (acc ++ [(s[k], false)])) := by rw [cells_app, List.length_append]; exact hown1
          clear hown hown1 hgrow hb
          go_wp2
          go_roundw
          case rel => exact ⟨k + 1, _, by omega, by rw [List.length_append, List.length_singleton]; omega, by go_num, hb1, hown2, hrd1.out⟩
          case measure => simp [intOf]; omega
    · have hdone := Lib.hid (hrd.out.done (by rw [data_len]; omega))
      go_wp2
      go_ret2
      exact readPost_some hdone.out (Tx.of_ends hown) hb
end Go.Proofs.YtdiiimcoannnnaaDoor
