/-
  The walk of GlobsEnds: it answers true and leaves what was there. Conditions: the pattern lies in memory that was there.
-/
import Derived.Test.YtnioneknlgbhoaaGbRefEnds
import Derived.Test.YtnioneknlgbhoaaGbLawFits
namespace Go.Proofs.Ytnioneknlgbhoaa
open Go Go.RowKit

set_option maxHeartbeats 4000000 in
set_option maxRecDepth 100000 in
theorem lawEnds_any (p : List It) (s : ByteArray) (v : Value) (w : World) (htp : Its w w.heap.size v p) :
    Calls Try.prog 5 #[v, .string s] w fun e w' => e = .returned (.bool true) ∧ Below w.heap.size w w' := by
  have hfp := few_any p v _ w htp
  obtain ⟨A, c, rfl, hc, hcm⟩ := htp.form
  unfold maxLen at hcm
  cases hf : fewP p with
  | false =>
    rw [hf] at hfp
    clear hf
    go_enter Try.func5, Try.ntmps5
    go_wp2_with fail
    refine hfp.mono ?_
    rintro e w1 ⟨rfl, rfl⟩
    go_wp2_with fail
    refine (awake_any _).mono ?_
    rintro e w6 ⟨rfl, hb6⟩
    go_wp2
    go_ret
    exact ⟨rfl, hb6⟩
  | true =>
    rw [hf] at hfp
    obtain ⟨hlp, hrs⟩ := few_parts hf
    clear hf
    by_cases hls : s.size ≤ 60
    · go_enter Try.func5, Try.ntmps5
      go_wp2_with fail
      refine hfp.mono ?_
      rintro e w1 ⟨rfl, rfl⟩
      clear hfp
      go_wp2_with fail
      refine (items_any p _ _ htp (by omega) hrs).mono ?_
      rintro e w2 ⟨v2, rfl, htq, hb2⟩
      obtain ⟨A2, c2, rfl, _, _⟩ := htq.form
      have hp := (htp.below hb2).more hb2.size
      have hbA := hb2
      clear hb2
      go_wp2_with fail
      refine (headG_any p _ s false _ _ hp (Nat.le_refl _) (by omega) (by omega)).mono ?_
      rintro e w3 ⟨rfl, hb3⟩
      have hp := (hp.below hb3).more hb3.size
      have htq := (htq.below hb3).more hb3.size
      have hbA := hbA.trans (hb3.mono hbA.size)
      clear hb3
      go_wp2_with fail
      refine (headRef_any p _ s false _ _ htq (Nat.le_refl _) (by omega) (by omega)).mono ?_
      rintro e w3 ⟨rfl, hb3⟩
      have hp := (hp.below hb3).more hb3.size
      have htq := (htq.below hb3).more hb3.size
      have hbA := hbA.trans (hb3.mono hbA.size)
      clear hb3
      generalize headI p (bl s) false = x
      go_wp2_with fail
      refine (headG_any p _ s true _ _ hp (Nat.le_refl _) (by omega) (by omega)).mono ?_
      rintro e w3 ⟨rfl, hb3⟩
      have hp := (hp.below hb3).more hb3.size
      have htq := (htq.below hb3).more hb3.size
      have hbA := hbA.trans (hb3.mono hbA.size)
      clear hb3
      go_wp2_with fail
      refine (headRef_any p _ s true _ _ htq (Nat.le_refl _) (by omega) (by omega)).mono ?_
      rintro e w3 ⟨rfl, hb3⟩
      have hp := (hp.below hb3).more hb3.size
      have htq := (htq.below hb3).more hb3.size
      have hbA := hbA.trans (hb3.mono hbA.size)
      clear hb3
      generalize headI p (bl s) true = x
      go_wp2_with fail
      refine (tailG_any p _ s false _ hp (by omega) (by omega)).mono ?_
      rintro e w3 ⟨rfl, hb3⟩
      have hp := (hp.below hb3).more hb3.size
      have htq := (htq.below hb3).more hb3.size
      have hbA := hbA.trans (hb3.mono hbA.size)
      clear hb3
      go_wp2_with fail
      refine (tailRef_any p _ s false _ _ htq (Nat.le_refl _) (by omega) (by omega)).mono ?_
      rintro e w3 ⟨rfl, hb3⟩
      have hp := (hp.below hb3).more hb3.size
      have htq := (htq.below hb3).more hb3.size
      have hbA := hbA.trans (hb3.mono hbA.size)
      clear hb3
      generalize tailI p (bl s) false = x
      go_wp2_with fail
      refine (tailG_any p _ s true _ hp (by omega) (by omega)).mono ?_
      rintro e w3 ⟨rfl, hb3⟩
      have hp := (hp.below hb3).more hb3.size
      have htq := (htq.below hb3).more hb3.size
      have hbA := hbA.trans (hb3.mono hbA.size)
      clear hb3
      go_wp2_with fail
      refine (tailRef_any p _ s true _ _ htq (Nat.le_refl _) (by omega) (by omega)).mono ?_
      rintro e w3 ⟨rfl, hb3⟩
      have hp := (hp.below hb3).more hb3.size
      have htq := (htq.below hb3).more hb3.size
      have hbA := hbA.trans (hb3.mono hbA.size)
      clear hb3
      generalize tailI p (bl s) true = x
      go_wp2_with fail
      refine (awake_any _).mono ?_
      rintro e w8 ⟨rfl, hb8⟩
      go_wp2
      go_ret
      exact ⟨rfl, hbA.trans (hb8.mono hbA.size)⟩
    · go_enter Try.func5, Try.ntmps5
      go_wp2_with fail
      refine hfp.mono ?_
      rintro e w1 ⟨rfl, rfl⟩
      go_wp2_with fail
      refine (awake_any _).mono ?_
      rintro e w6 ⟨rfl, hb6⟩
      go_wp2
      go_ret
      exact ⟨rfl, hb6⟩
end Go.Proofs.Ytnioneknlgbhoaa
