/-
  The walk of GlobsAll: it answers true and leaves what was there. Conditions: the pattern lies in memory that was there; most is an int.
-/
import Derived.Test.YtnioneknlgbhoaaGbRefAll
import Derived.Test.YtnioneknlgbhoaaGbLawFits
namespace Go.Proofs.Ytnioneknlgbhoaa
open Go Go.RowKit

theorem ownT_form {w : World} {base : Nat} {e : TypeId} {v : Value} {L : List ByteArray} (h : w.ownsRow base e 1 v L.length (cellsT L)) :
    ∃ (A : Option Addr) (c : Nat), v = .slice A L.length c ∧ (L.length ≤ c ∧ L.length ≤ 9223372036854775807) ∧ ∀ j (hj : j < L.length), ∃ g, A = some ⟨g, 0, none⟩ ∧ base ≤ g ∧ g < w.heap.size ∧ w.cell? ⟨g, j, none⟩ = some (.string L[j]) := by
  have hlt := h.lt
  have hc := fun g hg => h.cells (g := g) hg
  rcases h.2 with ⟨rfl, h0⟩ | ⟨g, cap, cur, rfl, hb, hg, hn, hm, _⟩
  · exact ⟨none, 0, by rw [h0], ⟨by omega, by omega⟩, fun j hj => by omega⟩
  · refine ⟨_, cap, rfl, ⟨hn, by unfold maxLen at hm; omega⟩, fun j hj => ⟨g, rfl, hb, (hlt g rfl).2, ?_⟩⟩
    have := hc g rfl j _ (cellsT_get hj)
    rwa [add_plain0, Nat.zero_add] at this

set_option maxHeartbeats 4000000 in
set_option maxRecDepth 100000 in
theorem lawAll_any (p : List It) (al : ByteArray) (most : Int) (v : Value) (w : World) (htp : Its w w.heap.size v p) (hm : most ≤ 9223372036854775807) :
    Calls Try.prog 6 #[v, .string al, .int .i64 most] w fun e w' => e = .returned (.bool true) ∧ Below w.heap.size w w' := by
  have hfp := few_any p v _ w htp
  obtain ⟨A, c, rfl, hc, hcm⟩ := htp.form
  unfold maxLen at hcm
  cases hf : fewP p with
  | false =>
    rw [hf] at hfp
    clear hf
    go_enter Try.func6, Try.ntmps6
    go_wp2_with fail
    refine hfp.mono ?_
    rintro e w1 ⟨rfl, rfl⟩
    go_wp2_with fail
    refine (awake_any _).mono ?_
    rintro e w6 ⟨rfl, hb6⟩
    go_wp2
    go_ret
    exact ⟨rfl, hb6⟩
  | true =>
    rw [hf] at hfp
    obtain ⟨hlp, hrs⟩ := few_parts hf
    clear hf
    by_cases hl20 : p.length ≤ 20
    · by_cases hls : al.size ≤ 300
      · go_enter Try.func6, Try.ntmps6
        go_wp2_with fail
        refine hfp.mono ?_
        rintro e w1 ⟨rfl, rfl⟩
        clear hfp
        go_wp2_with fail
        refine (all_any p _ al most _ _ htp (Nat.le_refl _) (by omega) hls).mono ?_
        rintro e w2 ⟨v2, rfl, hb2, ho2⟩
        obtain ⟨A2, c2, rfl, ⟨hc2, hNm⟩, hg2⟩ := ownT_form ho2
        have hp2 := htp.below hb2
        go_wp2_with fail
        refine (items_any p _ _ (hp2.more hb2.size) (by omega) hrs).mono ?_
        rintro e w3 ⟨v3, rfl, ht3, hb3⟩
        have hbA := hb2.trans (hb3.mono hb2.size)
        obtain ⟨A3, c3, rfl, _, _⟩ := ht3.form
        go_wp2_with fail
        refine (allRef_any p _ al most _ _ ht3 (Nat.le_refl _) (by omega) hls hm).mono ?_
        rintro e w4 ⟨v4, rfl, hb4, ho4⟩
        obtain ⟨A4, c4, rfl, ⟨hc4, _⟩, hg4⟩ := ownT_form ho4
        have hbB := hbA.trans (hb4.mono hbA.size)
        have hb24 : Below w2.heap.size w2 w4 := hb3.trans (hb4.mono hb3.size)
        clear ho2 ho4 hp2 ht3 hbA hb2 hb3 hb4
        generalize allL p al most = L at hc2 hg2 hc4 hg4 hNm ⊢
        generalize allE al most = E
        obtain ⟨N, hN⟩ : ∃ N, L.length = N := ⟨_, rfl⟩
        rw [hN] at hc2 hc4 hNm ⊢
        have hN := Lib.hid hN
        go_wp2
        go_loopw [11] (fun iv wr => ∃ i : Nat, i ≤ N ∧ iv = .int .i64 i ∧ ∃ d, wr = w4.drewN d) (fun iv _ => N - (intOf iv).toNat)
        case atStart => exact ⟨0, Nat.zero_le _, rfl, 0, rfl⟩
        case round =>
          obtain ⟨i, hi, rfl, d, rfl⟩ := hrel
          by_cases hlt : i < N
          · obtain ⟨g, rfl, _, hgl, hcA⟩ := hg2 i (by have := hN.out; omega)
            obtain ⟨g4, rfl, _, _, hcB⟩ := hg4 i (by have := hN.out; omega)
            have hcA4 := (hb24.cell (p := ⟨g, i, none⟩) hgl).trans hcA
            generalize L[i]'(by have := hN.out; omega) = t at hcA hcB hcA4
            clear hg2 hg4 hcA hc2 hc4
            go_wp2
            go_quiet (fail)
            go_wp2
            go_roundw
            case rel => exact ⟨i + 1, by omega, by go_num, ⟨_, rfl⟩⟩
            case measure => simp [intOf]; omega
          · obtain rfl : i = N := by omega
            clear hg2 hg4 hc2 hc4
            go_wp2_with fail
            refine (awake_any _).mono ?_
            rintro e w6 ⟨rfl, hb6⟩
            have hbE := below_drewN hbB d
            go_wp2
            go_ret
            exact ⟨rfl, hbE.trans (hb6.mono hbE.size)⟩
      · go_enter Try.func6, Try.ntmps6
        go_wp2_with fail
        refine hfp.mono ?_
        rintro e w1 ⟨rfl, rfl⟩
        go_wp2_with fail
        refine (awake_any _).mono ?_
        rintro e w6 ⟨rfl, hb6⟩
        go_wp2
        go_ret
        exact ⟨rfl, hb6⟩
    · go_enter Try.func6, Try.ntmps6
      go_wp2_with fail
      refine hfp.mono ?_
      rintro e w1 ⟨rfl, rfl⟩
      go_wp2_with fail
      refine (awake_any _).mono ?_
      rintro e w6 ⟨rfl, hb6⟩
      go_wp2
      go_ret
      exact ⟨rfl, hb6⟩
end Go.Proofs.Ytnioneknlgbhoaa
