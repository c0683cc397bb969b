/-
  The walk of GlobsJoin: it answers true and leaves what was there. Conditions: the two patterns lie in memory that was there.
-/
import Derived.Test.YtnioneknlgbhoaaGbFew
namespace Go.Proofs.Ytnioneknlgbhoaa
open Go Go.RowKit

theorem rgsOf_append {w : World} {B : Nat} {p q : List It} {us vs : List Value} (h : RgsOf w B p us) (k : RgsOf w B q vs) : RgsOf w B (p ++ q) (us ++ vs) := by
  refine ⟨by simp [h.1, k.1], fun i x hx => ?_⟩
  rcases Nat.lt_or_ge i p.length with hi | hi
  · rw [List.getElem?_append_left hi] at hx
    rw [List.getElem?_append_left (by rw [h.1]; exact hi)]
    exact h.2 i x hx
  · rw [List.getElem?_append_right hi] at hx
    rw [List.getElem?_append_right (by rw [h.1]; exact hi), h.1]
    exact k.2 _ x hx
theorem cellsIt_one {w : World} {B : Nat} {p : List It} {us : List Value} (h : RgsOf w B p us) : ∀ u ∈ cellsIt p us, u.oneCell' = true := by
  obtain ⟨h1, h2⟩ := h
  induction p generalizing us with
  | nil => intro u hu; simp [cellsIt] at hu
  | cons x p ih =>
    cases us with
    | nil => simp at h1
    | cons v us =>
      intro u hu
      simp only [cellsIt, List.zipWith_cons_cons, List.flatten_cons, List.mem_append] at hu
      rcases hu with hu | hu
      · obtain ⟨v', hv, hr⟩ := h2 0 x rfl
        obtain rfl : v = v' := by simpa using hv
        obtain ⟨A, c, rfl, _, _⟩ := hr.form
        simp only [ci, List.mem_cons, List.mem_nil_iff, or_false] at hu
        rcases hu with rfl | rfl | rfl | rfl <;> rfl
      · exact ih (by simpa using h1) (fun k y hy => h2 (k + 1) y (by simpa using hy)) u hu
/-- Whether a text can be cut in two, the first part of fewer than k bytes, that both patterns fit. -/
def cutQ (p q : List It) (s : List UInt8) (k : Nat) : Bool := (List.range k).any fun n => mt p (s.take n) && mt q (s.drop n)
theorem cutQ_succ (p q : List It) (s : List UInt8) (k : Nat) : cutQ p q s (k + 1) = (cutQ p q s k || (mt p (s.take k) && mt q (s.drop k))) := by
  unfold cutQ; rw [List.range_succ, List.any_append]; simp
theorem cutQ_mt (p q : List It) (s : List UInt8) : cutQ p q s (s.length + 1) = mt (p ++ q) s := by
  rw [Bool.eq_iff_iff, mt_append]
  unfold cutQ
  rw [List.any_eq_true]
  constructor
  · rintro ⟨n, hn, h⟩
    rw [Bool.and_eq_true] at h
    exact ⟨n, by have := List.mem_range.1 hn; omega, h.1, h.2⟩
  · rintro ⟨n, hn, h1, h2⟩
    exact ⟨n, List.mem_range.2 (by omega), by rw [Bool.and_eq_true]; exact ⟨h1, h2⟩⟩

set_option maxHeartbeats 4000000 in
set_option maxRecDepth 100000 in
theorem lawJoin_any (p q : List It) (s : ByteArray) (v u : Value) (w : World) (htp : Its w w.heap.size v p) (htq : Its w w.heap.size u q) :
    Calls Try.prog 7 #[v, u, .string s] w fun e w' => e = .returned (.bool true) ∧ Below w.heap.size w w' := by
  have hfp := few_any p v _ w htp
  have hfq := few_any q u _ w htq
  obtain ⟨A, c, rfl, hc, hcm⟩ := htp.form
  obtain ⟨D, d, rfl, hd, hdm⟩ := htq.form
  unfold maxLen at hcm hdm
  by_cases hall : fewP p = true ∧ fewP q = true ∧ p.length ≤ 30 ∧ q.length ≤ 30 ∧ s.size ≤ 60
  · obtain ⟨h1, h2, hlp, hlq, hls⟩ := hall
    rw [h1] at hfp
    rw [h2] at hfq
    clear h1 h2
    obtain ⟨i0, hi, hz0, hz1, hz2⟩ := info_parts infoItem
    obtain ⟨us, hslp, hrp⟩ := htp
    obtain ⟨vs, hslq, hrq⟩ := htq
    go_enter Try.func7, Try.ntmps7
    go_wp2_with fail
    refine hfp.mono ?_
    rintro e w1 ⟨rfl, rfl⟩
    clear hfp
    go_wp2_with fail
    refine hfq.mono ?_
    rintro e w2 ⟨rfl, rfl⟩
    clear hfq
    go_wp2_with (at_builtin; refine wpList_append_sl _ rfl _ _ 24 rfl w2.heap.size 50 i0 _ 4 40 Try.underlying24 hi hz0 hz1 hz2 rfl (by decide) _ 0 [] rfl (World.ownsRow_nil _ _ _ _) _ _ _ _ rfl hslp (cellsIt_one hrp) ?c3 ?c4 ?c5 ?_)
    case c3 => simp only [maxLen]; omega
    case c4 => omega
    case c5 => exact Nat.le_refl _
    intro v3 w3 hown3 hgrow3
    have hb3 : Below w2.heap.size w2 w3 := (Below.refl _ _).grown hgrow3 (Nat.le_refl _) (fun g h => by simp [Value.ownBlock] at h)
    try rw [Nat.zero_add] at hown3
    try rw [List.nil_append] at hown3
    clear hgrow3
    have hslq3 := hslq.below hb3
    have hrq3 := hrq.below hb3
    obtain ⟨A3, c3, rfl⟩ := own_formN hown3
    go_wp2_with (at_builtin; refine wpList_append_sl _ rfl _ _ 24 rfl w2.heap.size 50 i0 _ 4 40 Try.underlying24 hi hz0 hz1 hz2 rfl (by decide) _ _ _ rfl hown3 _ _ _ _ rfl hslq3 (cellsIt_one hrq3) ?c3 ?c4 ?c5 ?_)
    case c3 => simp only [maxLen]; omega
    case c4 => omega
    case c5 => exact hb3.size
    intro v4 w4 hown4 hgrow4
    have hb4 : Below w2.heap.size w2 w4 := hb3.grown hgrow4 hb3.size (fun g h => (hown3.lt g h).1)
    rw [← cellsIt_append _ _ _ _ hrp.1] at hown4
    have hp4 : Its w4 w2.heap.size _ p := ⟨us, hslp.below hb4, hrp.below hb4⟩
    have hq4 : Its w4 w2.heap.size _ q := ⟨vs, hslq.below hb4, hrq.below hb4⟩
    have hboth : Its w4 w4.heap.size v4 (p ++ q) := by
      refine ⟨us ++ vs, ?_, (rgsOf_append (hrp.below hb4) (hrq.below hb4)).more hb4.size⟩
      rw [List.length_append]
      exact Sl.of_own hown4
    obtain ⟨A4, c4, rfl⟩ := own_formN hown4
    clear hslp hslq hrp hrq hslq3 hrq3 hown3 hown4 hgrow4 hb3 hi hz0 hz1 hz2
    have hsz4 := hb4.size
    go_wp2
    go_loopw [8, 9] (fun is n wr => ∃ (k : Nat) (b : Bool), k ≤ s.size + 1 ∧ is = .bool b ∧ n = .int .i64 k ∧ Below w4.heap.size w4 wr ∧ Hid (b = cutQ p q (bl s) k)) (fun _ n _ => s.size + 1 - (intOf n).toNat)
    case atStart => exact ⟨0, false, Nat.zero_le _, rfl, rfl, Below.refl _ _, rfl⟩
    case round =>
      obtain ⟨k, b, hk, rfl, rfl, hb, hq⟩ := hrel
      have hsz := hb.size
      by_cases hlt : k ≤ s.size
      · have hs := cutQ_succ p q (bl s) k
        rw [← hq.out, ← bl_upto, ← bl_from] at hs
        have hpw := hp4.below (hb.mono hsz4)
        have hqw := hq4.below (hb.mono hsz4)
        have hmp := match_any p _ (s.extract 0 k) w2.heap.size wr hpw (by omega) (by omega) (by simp; omega)
        generalize mt p (bl (s.extract 0 k)) = m1 at hmp hs
        have hkI : (k : Int) ≤ (s.size : Int) := by omega
        cases b with
        | true =>
          have hn := Lib.hid hs
          clear hmp hs hq hpw hqw
          go_wp2
          go_roundw
          case rel => exact ⟨k + 1, true, by omega, rfl, by go_num, hb, by rw [Hid, hn.out]; rfl⟩
          case measure => simp [intOf]; omega
        | false =>
          cases m1 with
          | false =>
            have hn := Lib.hid hs
            clear hs hq hpw hqw
            go_wp2_with fail
            refine hmp.mono ?_
            rintro e w5 ⟨rfl, hb5⟩
            clear hmp
            go_wp2
            go_roundw
            case rel => exact ⟨k + 1, false, by omega, rfl, by go_num, hb.trans (hb5.mono hsz), by rw [Hid, hn.out]; rfl⟩
            case measure => simp [intOf]; omega
          | true =>
            go_wp2_with fail
            refine hmp.mono ?_
            rintro e w5 ⟨rfl, hb5⟩
            clear hmp
            have hqw5 := hqw.below (hb5.mono (by omega))
            have hb6 : Below w4.heap.size w4 w5 := hb.trans (hb5.mono hsz)
            have hsz5 := hb5.size
            have hmq := match_any q _ (s.extract k s.size) w2.heap.size w5 hqw5 (by omega) (by omega) (by simp; omega)
            generalize mt q (bl (s.extract k s.size)) = m2 at hmq hs
            have hn := Lib.hid hs
            clear hs hq hpw hqw hqw5 hb5
            go_wp2_with fail
            refine hmq.mono ?_
            rintro e w7 ⟨rfl, hb7⟩
            clear hmq
            go_wp2
            go_roundw
            case rel => exact ⟨k + 1, m2, by omega, rfl, by go_num, hb6.trans (hb7.mono hb6.size), by rw [Hid, hn.out]; simp⟩
            case measure => simp [intOf]; omega
      · have hbw := (hboth.below hb).more hsz
        have hm := match_any (p ++ q) _ s wr.heap.size wr hbw (Nat.le_refl _) (by simp; omega) (by omega)
        have hk2 : k = (bl s).length + 1 := by rw [bl_len]; omega
        have hq2 := hq.out
        rw [hk2, cutQ_mt] at hq2
        rw [← hq2] at hm
        try rw [List.length_append] at hm
        clear hq hq2 hk2 hbw hboth
        have hbA : Below w2.heap.size w2 wr := hb4.trans (hb.mono hsz4)
        go_wp2_with fail
        refine hm.mono ?_
        rintro e w5 ⟨rfl, hb5⟩
        clear hm
        cases b
        all_goals
          go_wp2_with fail
          refine (awake_any _).mono ?_
          rintro e w6 ⟨rfl, hb6⟩
          go_wp2
          go_ret
          exact ⟨rfl, (hbA.trans (hb5.mono hbA.size)).trans (hb6.mono (by have := hbA.size; have := hb5.size; omega))⟩
  · have hcase : fewP p = false ∨ (fewP p = true ∧ fewP q = false) ∨ (fewP p = true ∧ fewP q = true ∧ ¬ p.length ≤ 30) ∨ (fewP p = true ∧ fewP q = true ∧ p.length ≤ 30 ∧ ¬ q.length ≤ 30) ∨ (fewP p = true ∧ fewP q = true ∧ p.length ≤ 30 ∧ q.length ≤ 30 ∧ ¬ s.size ≤ 60) := by
      cases h1 : fewP p <;> cases h2 : fewP q <;> simp [h1, h2] at hall ⊢
      omega
    clear hall
    rcases hcase with h1 | ⟨h1, h2⟩ | ⟨h1, h2, h3⟩ | ⟨h1, h2, h3, h4⟩ | ⟨h1, h2, h3, h4, h5⟩
    · rw [h1] at hfp
      clear h1 hfq
      go_enter Try.func7, Try.ntmps7
      go_wp2_with fail
      refine hfp.mono ?_
      rintro e w1 ⟨rfl, rfl⟩
      go_wp2_with fail
      refine (awake_any _).mono ?_
      rintro e w6 ⟨rfl, hb6⟩
      go_wp2
      go_ret
      exact ⟨rfl, hb6⟩
    all_goals
      rw [h1] at hfp
      rw [h2] at hfq
      clear h1 h2
      go_enter Try.func7, Try.ntmps7
      go_wp2_with fail
      refine hfp.mono ?_
      rintro e w1 ⟨rfl, rfl⟩
      clear hfp
      go_wp2_with fail
      refine hfq.mono ?_
      rintro e w2 ⟨rfl, rfl⟩
      clear hfq
      go_wp2_with fail
      refine (awake_any _).mono ?_
      rintro e w6 ⟨rfl, hb6⟩
      go_wp2
      go_ret
      exact ⟨rfl, hb6⟩
end Go.Proofs.Ytnioneknlgbhoaa
