/-
  The walk of GlobsFits: it answers true and leaves what was there. Conditions: the pattern lies in memory that was there.
-/
import Derived.Test.YtnioneknlgbhoaaGbRefFits
import Derived.Test.YtnioneknlgbhoaaGbItems
import Derived.Test.YtnioneknlgbhoaaGbFew
namespace Go.Proofs.Ytnioneknlgbhoaa
open Go Go.RowKit

theorem few_parts {p : List It} (h : fewP p = true) : p.length ≤ 60 ∧ ∀ x ∈ p, x.2.2.2.length ≤ 1000000 := by
  unfold fewP at h
  rw [Bool.and_eq_true, decide_eq_true_eq, List.all_eq_true] at h
  refine ⟨h.1, fun x hx => ?_⟩
  have := h.2 x hx
  simp only [small, decide_eq_true_eq] at this
  omega

set_option maxHeartbeats 4000000 in
set_option maxRecDepth 100000 in
theorem lawFits_any (p : List It) (s : ByteArray) (v : Value) (w : World) (htp : Its w w.heap.size v p) :
    Calls Try.prog 4 #[v, .string s] w fun e w' => e = .returned (.bool true) ∧ Below w.heap.size w w' := by
  have hfp := few_any p v _ w htp
  obtain ⟨A, c, rfl, hc, hcm⟩ := htp.form
  unfold maxLen at hcm
  cases hf : fewP p with
  | false =>
    rw [hf] at hfp
    clear hf
    go_enter Try.func4, Try.ntmps4
    go_wp2_with fail
    refine hfp.mono ?_
    rintro e w1 ⟨rfl, rfl⟩
    go_wp2_with fail
    refine (awake_any _).mono ?_
    rintro e w6 ⟨rfl, hb6⟩
    go_wp2
    go_ret
    exact ⟨rfl, hb6⟩
  | true =>
    rw [hf] at hfp
    obtain ⟨hlp, hrs⟩ := few_parts hf
    clear hf
    by_cases hls : s.size ≤ 200
    · go_enter Try.func4, Try.ntmps4
      go_wp2_with fail
      refine hfp.mono ?_
      rintro e w1 ⟨rfl, rfl⟩
      clear hfp
      go_wp2_with fail
      refine (match_any p _ s _ _ htp (Nat.le_refl _) (by omega) (by omega)).mono ?_
      rintro e w2 ⟨rfl, hb2⟩
      have hp2 := htp.below hb2
      go_wp2_with fail
      refine (items_any p _ _ (hp2.more hb2.size) (by omega) hrs).mono ?_
      rintro e w3 ⟨v3, rfl, ht3, hb3⟩
      have hbA := hb2.trans (hb3.mono hb2.size)
      obtain ⟨A3, c3, rfl, _, _⟩ := ht3.form
      clear hp2 hb2 hb3
      go_wp2_with fail
      refine (matchRef_any p _ s _ _ ht3 (Nat.le_refl _) (by omega) (by omega)).mono ?_
      rintro e w4 ⟨rfl, hb4⟩
      have hbB := hbA.trans (hb4.mono hbA.size)
      clear ht3 hbA hb4
      have hp4 := (htp.below hbB).more hbB.size
      generalize mt p (bl s) = m
      go_wp2_with fail
      refine (path_any p _ s _ hp4 (by omega) (by omega)).mono ?_
      rintro e w5 ⟨rfl, hb5⟩
      have hbC := hbB.trans (hb5.mono hbB.size)
      have hp5 := (htp.below hbC).more hbC.size
      clear hbB hb5 hp4
      go_wp2_with fail
      refine (items_any p _ _ hp5 (by omega) hrs).mono ?_
      rintro e w6 ⟨v6, rfl, ht6, hb6⟩
      have hbD := hbC.trans (hb6.mono hbC.size)
      obtain ⟨A6, c6, rfl, _, _⟩ := ht6.form
      clear hbC hb6 hp5
      go_wp2_with fail
      refine (pathRef_any p _ s _ _ ht6 (Nat.le_refl _) (by omega) (by omega)).mono ?_
      rintro e w7 ⟨rfl, hb7⟩
      have hbE := hbD.trans (hb7.mono hbD.size)
      clear hbD hb7 ht6
      generalize pathM p (bl s) = q
      go_wp2_with fail
      refine (awake_any _).mono ?_
      rintro e w8 ⟨rfl, hb8⟩
      go_wp2
      go_ret
      exact ⟨rfl, hbE.trans (hb8.mono hbE.size)⟩
    · go_enter Try.func4, Try.ntmps4
      go_wp2_with fail
      refine hfp.mono ?_
      rintro e w1 ⟨rfl, rfl⟩
      go_wp2_with fail
      refine (awake_any _).mono ?_
      rintro e w6 ⟨rfl, hb6⟩
      go_wp2
      go_ret
      exact ⟨rfl, hb6⟩
end Go.Proofs.Ytnioneknlgbhoaa
