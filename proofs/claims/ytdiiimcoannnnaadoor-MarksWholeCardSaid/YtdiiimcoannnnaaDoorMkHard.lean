/-
  Hard (of the package and of the reference) tells whether a byte is quoted, and whether all are. Conditions: the text lies in memory that was there.
-/
import Derived.Test.YtdiiimcoannnnaaDoorMkWords
import Derived.Test.YtdiiimcoannnnaaDoorProg
import Derived.Deep.QuietTactic
import Derived.BigQuiet
namespace Go.Proofs.YtdiiimcoannnnaaDoor
open Go Go.RowKit

def someQ (l : List Ch) : Bool := l.any (·.2)
def allQ (l : List Ch) : Bool := l.all (·.2)
theorem someQ_snoc (l : List Ch) (k : Nat) (h : k < l.length) : someQ (l.take (k + 1)) = (someQ (l.take k) || l[k].2) := by
  rw [List.take_succ_eq_append_getElem h]; simp only [someQ, List.any_append, List.any_cons, List.any_nil, Bool.or_false]
theorem allQ_snoc (l : List Ch) (k : Nat) (h : k < l.length) : allQ (l.take (k + 1)) = (allQ (l.take k) && l[k].2) := by
  rw [List.take_succ_eq_append_getElem h]; simp only [allQ, List.all_append, List.all_cons, List.all_nil, Bool.and_true]
theorem ret_bools {a b c d : Bool} (h : a = c) (k : b = d) : Ending.returned (.tuple #[.bool a, .bool b]) = .returned (.tuple #[.bool c, .bool d]) := by rw [h, k]

set_option maxHeartbeats 400000 in
theorem rhard_any (l : List Ch) (v : Value) (B : Nat) (w : World) (ht : Tx w B v l) :
    Calls Tryd.prog 23 #[v] w fun e w' => e = .returned (.tuple #[.bool (someQ l), .bool (allQ l)]) ∧ w = w' := by
  obtain ⟨A, c, rfl, hc, hcm⟩ := ht.form
  unfold maxLen at hcm
  go_enter Tryd.func23, Tryd.ntmps23
  go_wp2
  go_loop [4, 5, 6] (fun s a i => ∃ (k : Nat) (x y : Bool), k ≤ l.length ∧ Hid (x = someQ (l.take k)) ∧ Hid (y = allQ (l.take k)) ∧ s = .bool x ∧ a = .bool y ∧ i = .int .i64 k) (fun _ _ i => l.length - (intOf i).toNat)
  case atStart => exact ⟨0, false, true, Nat.zero_le _, rfl, rfl, rfl, rfl, rfl⟩
  case round =>
    obtain ⟨k, x, y, hk, hx, hy, rfl, rfl, rfl⟩ := hrel
    by_cases hlt : k < l.length
    · obtain ⟨blk, off, rfl, hblk, g0, g1⟩ := ht.at_ hlt
      have hs := Lib.hid (someQ_snoc l k hlt)
      have ha := Lib.hid (allQ_snoc l k hlt)
      generalize l[k].2 = z at g1 hs ha
      clear g0
      cases x <;> cases y
      all_goals
        go_wp2
        go_round
        case rel => exact ⟨k + 1, _, _, by omega, by rw [hs.out, ← hx.out]; rfl, by rw [ha.out, ← hy.out]; rfl, rfl, rfl, by go_num⟩
        case measure => simp [intOf]; omega
    · go_wp2
      go_ret2
      exact ⟨ret_bools (by rw [hx.out, List.take_of_length_le (by omega)]) (by rw [hy.out, List.take_of_length_le (by omega)]), rfl⟩

set_option maxHeartbeats 400000 in
theorem hard_any (l : List Ch) (v : Value) (B : Nat) (w : World) (ht : Tx w B v l) (hB : B ≤ w.heap.size) :
    Calls Tryd.prog 22 #[v] w fun e w' => e = .returned (.tuple #[.bool (someQ l), .bool (allQ l)]) ∧ Below w.heap.size w w' := by
  obtain ⟨A, c, rfl, hc, hcm⟩ := ht.form
  unfold maxLen at hcm
  go_enter Tryd.func22, Tryd.ntmps22
  go_wp2
  go_loopw [4, 5, 10] (fun s a i wr => ∃ (k : Nat) (x y : Bool), k ≤ l.length ∧ Hid (x = someQ (l.take k)) ∧ Hid (y = allQ (l.take k)) ∧ s = .bool x ∧ a = .bool y ∧ i = .int .i64 k ∧ Below w.heap.size w wr) (fun _ _ i _ => l.length - (intOf i).toNat)
  case atStart => exact ⟨0, false, true, Nat.zero_le _, rfl, rfl, rfl, rfl, rfl, Below.refl _ _⟩
  case round =>
    obtain ⟨k, x, y, hk, hx, hy, rfl, rfl, rfl, hb⟩ := hrel
    have hsz := hb.size
    by_cases hlt : k < l.length
    · obtain ⟨blk, off, rfl, hblk, g0, g1⟩ := ((ht.more hB).below hb).at_ hlt
      have hs := Lib.hid (someQ_snoc l k hlt)
      have ha := Lib.hid (allQ_snoc l k hlt)
      generalize l[k].2 = z at g1 hs ha
      have hbk : blk < wr.heap.size := by omega
      cases x <;> cases y
      all_goals
        go_wp2
        go_roundw
        case rel => exact ⟨k + 1, _, _, by omega, by rw [hs.out, ← hx.out]; rfl, by rw [ha.out, ← hy.out]; rfl, rfl, rfl, by go_num, hb.alloc hsz _⟩
        case measure => simp [intOf]; omega
    · go_wp2
      go_ret2
      exact ⟨ret_bools (by rw [hx.out, List.take_of_length_le (by omega)]) (by rw [hy.out, List.take_of_length_le (by omega)]), hb⟩
end Go.Proofs.YtdiiimcoannnnaaDoor
