/-
  The walk of ParamsTrims: it answers true and leaves what was there. Conditions: the marked bytes lie in memory that was there.
-/
import Derived.Test.YtmoihdddmeienaaGreatDoorPaAwake
import Derived.Test.YtmoihdddmeienaaGreatDoorPaRTrim
namespace Go.Proofs.YtmoihdddmeienaaGreatDoor
open Go Go.RowKit

/-- What both Trims answer, whatever is handed in. -/
def TrimR (r : ByteArray) (n : Int) (w : World) (e : Ending) (w' : World) : Prop := e = .returned (.tuple #[.string r, .int .i64 n]) ∧ Below w.heap.size w w'
theorem trim_both (op : Int) (s : ByteArray) (t : List Ch) (v : Value) (w : World) (ht : Tx w w.heap.size v t) (hl : t.length ≤ 60) (hs : s.size ≤ 5000) :
    ∃ r n, Calls Tryz.prog 5 #[.int .i64 op, .string s, v] w (TrimR r n w) ∧ ∀ V W, Tx W W.heap.size V t → Calls Tryz.prog 6 #[.int .i64 op, .string s, V] W (TrimR r n W) := by
  have hsame : ∀ {r : ByteArray} {n : Int} {e : Ending} {W W' : World}, (e = .returned (.tuple #[.string r, .int .i64 n]) ∧ W = W') → TrimR r n W e W' := fun h => ⟨h.1, h.2 ▸ Below.refl _ _⟩
  by_cases hop : op < 6 ∨ 9 < op
  · refine ⟨⟨#[]⟩, 1, ?_, fun V W hT => ?_⟩
    · obtain ⟨A, c, rfl, _, _⟩ := ht.form
      exact (trim_op s w op hop A _ c).mono fun e w' h => hsame h
    · obtain ⟨A, c, rfl, _, _⟩ := hT.form
      exact (rTrim_op s W op hop A _ c).mono fun e w' h => hsame h
  · obtain ⟨k, hk, rfl⟩ : ∃ k : Nat, k ≤ 3 ∧ op = 6 + (k : Int) := ⟨(op - 6).toNat, by omega, by omega⟩
    by_cases hb : s.size ≤ 4096
    · exact ⟨_, _, trim_any t v s w k hk ht (by omega) hb, fun V W hT => rTrim_any k hk t s V W hT (by omega) hb⟩
    · refine ⟨⟨#[]⟩, 21, ?_, fun V W hT => ?_⟩
      · obtain ⟨A, c, rfl, _, _⟩ := ht.form
        exact (trim_big s w (6 + (k : Int)) (by omega) (by omega) A _ c (by omega) (by omega)).mono fun e w' h => hsame h
      · obtain ⟨A, c, rfl, _, _⟩ := hT.form
        exact (rTrim_big k hk s W A _ c (by omega) (by omega)).mono fun e w' h => hsame h

set_option maxHeartbeats 2000000 in
set_option maxRecDepth 100000 in
theorem lawTrims_any (op : Int) (s : ByteArray) (t : List Ch) (v : Value) (w : World) (ht : Tx w w.heap.size v t) :
    Calls Tryz.prog 3 #[.int .i64 op, .string s, v] w fun e w' => e = .returned (.bool true) ∧ Below w.heap.size w w' := by
  by_cases hgo : (s.size ≤ 100 ∨ 4096 < s.size) ∧ s.size ≤ 5000 ∧ t.length ≤ 60
  · obtain ⟨h1, h2, h3⟩ := hgo
    obtain ⟨r, n, ha, hb⟩ := trim_both op s t v w ht h3 h2
    have htx := fun W h hB => text_any t v w.heap.size W h hB (by omega)
    obtain ⟨A, c, rfl, hc, hcm⟩ := ht.form
    unfold maxLen at hcm
    rcases h1 with h1 | h1
    all_goals
      go_enter Tryz.func3, Tryz.ntmps3
      go_wp2_with fail
      refine ha.mono ?_
      rintro e w1 ⟨rfl, hb1⟩
      go_wp2_with fail
      refine (htx _ (ht.below hb1) hb1.size).mono ?_
      rintro e w2 ⟨v2, rfl, ht2, hb2⟩
      have hbA := hb1.trans (hb2.mono hb1.size)
      go_wp2_with fail
      refine (hb _ _ ht2).mono ?_
      rintro e w3 ⟨rfl, hb3⟩
      have hbA := hbA.trans (hb3.mono hbA.size)
      clear ha hb htx hb1 hb2 hb3
      go_wp2_with fail
      refine (awake_any _).mono ?_
      rintro e w6 ⟨rfl, hb6⟩
      go_wp2
      go_ret
      exact ⟨rfl, hbA.trans (hb6.mono hbA.size)⟩
  · obtain ⟨A, c, rfl, hc, hcm⟩ := ht.form
    unfold maxLen at hcm
    have h3 : (¬ s.size ≤ 100 ∧ s.size ≤ 4096) ∨ 5000 < s.size ∨ (s.size ≤ 100 ∧ 60 < t.length) ∨ (4096 < s.size ∧ s.size ≤ 5000 ∧ 60 < t.length) := by omega
    clear hgo ht
    rcases h3 with ⟨h1, h2⟩ | h1 | ⟨h1, h2⟩ | ⟨h1, h2, h3⟩
    all_goals
      go_enter Tryz.func3, Tryz.ntmps3
      go_wp2_with fail
      refine (awake_any _).mono ?_
      rintro e w6 ⟨rfl, hb6⟩
      go_wp2
      go_ret
      exact ⟨rfl, hb6⟩
end Go.Proofs.YtmoihdddmeienaaGreatDoor
