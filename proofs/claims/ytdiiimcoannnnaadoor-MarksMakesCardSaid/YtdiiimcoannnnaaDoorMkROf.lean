/-
  The reference's Of answers the same text. Conditions: at most a million bytes.
-/
import Derived.Test.YtdiiimcoannnnaaDoorMkOf
namespace Go.Proofs.YtdiiimcoannnnaaDoor
open Go Go.RowKit

set_option maxHeartbeats 400000 in
set_option maxRecDepth 100000 in
theorem rof_any (s : ByteArray) (q : Bool) (w : World) (hs : s.size ≤ 1000000) :
    Calls Tryd.prog 13 #[.string s, .bool q] w fun e w' => ∃ v, e = .returned v ∧ Tx w' w'.heap.size v (ofL s q) ∧ Below w.heap.size w w' := by
  have HL := Lib.hid (ofL_length s q)
  obtain ⟨i0, hi, hz0, hz1, hz2⟩ := info_parts infoRCh
  go_enter Tryd.func13, Tryd.ntmps13
  go_wp2
  go_loopw [5, 6] (fun o i wr => ∃ (k : Nat), k ≤ s.size ∧ i = .int .i64 k ∧ Below w.heap.size w wr ∧ wr.ownsRow w.heap.size 65 2 o k (cellsCh ((ofL s q).take k))) (fun _ i _ => s.size - (intOf i).toNat)
  case atStart => exact ⟨0, Nat.zero_le _, rfl, Below.refl _ _, World.ownsRow_nil _ _ _ _⟩
  case round =>
    obtain ⟨k, hk, rfl, hb, hown⟩ := hrel
    have hsz := hb.size
    by_cases hlt : k < s.size
    · have hsn := Lib.hid (cellsCh_snoc (ofL s q) k (by rw [HL.out]; exact hlt))
      rw [ofL_get s q k hlt] at hsn
      go_wp2_with (at_builtin; refine wpList_append_own _ rfl _ _ 25 rfl w.heap.size 65 i0 (.agg #[.int .u8 0, .bool false]) 2 2 Tryd.underlying25 hi hz0 hz1 hz2 rfl (by decide) _ _ _ rfl (hown.alloc _) ⟨wr.heap.size, 0, none⟩ 1 1 [.int .u8 (s[k].toNat : Int), .bool q] rfl rfl ?c1 ?c2 ?c3 ?c4 ?c5 ?_)
      case c2 => simp [Value.oneCell']
      case c3 => simp only [maxLen]; omega
      case c4 => omega
      case c5 => first | omega | (simp; omega)
      intro v' w1 hown1 hgrow _
      have hb1 : Below w.heap.size w w1 := (hb.alloc hsz _).grown hgrow (by simp; omega) (fun g h => (hown.lt g h).1)
      have hown2 : w1.ownsRow w.heap.size 65 2 v' (k + 1) (cellsCh ((ofL s q).take (k + 1))) := by rw [hsn.out]; exact hown1
      clear hown hown1 hgrow hb
      go_wp2
      go_roundw
      case rel => exact ⟨k + 1, by omega, by go_num, hb1, hown2⟩
      case measure => simp [intOf]; omega
    · have hkl : k = s.size := by omega
      have ho : Tx wr wr.heap.size u5 (ofL s q) := by
        have := Sl.of_own hown
        subst hkl
        rw [List.take_of_length_le (by rw [HL.out]; exact Nat.le_refl _)] at this
        unfold Tx
        rw [HL.out]
        exact this
      clear hkl
      go_wp2
      go_ret
      exact ⟨_, rfl, ho, hb⟩
end Go.Proofs.YtdiiimcoannnnaaDoor
