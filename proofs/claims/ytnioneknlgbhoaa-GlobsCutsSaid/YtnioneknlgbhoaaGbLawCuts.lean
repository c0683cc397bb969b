/-
  The walk of GlobsCuts: it answers true and leaves what was there. Conditions: the pattern lies in memory that was there.
-/
import Derived.Test.YtnioneknlgbhoaaGbTwice
import Derived.Test.YtnioneknlgbhoaaGbTail
import Derived.Test.YtnioneknlgbhoaaGbLawFits
namespace Go.Proofs.Ytnioneknlgbhoaa
open Go Go.RowKit

set_option maxHeartbeats 400000 in
set_option maxRecDepth 100000 in
theorem allAA_any (v : Value) (w : World) :
    Calls Try.prog 29 #[v, .string ⟨#[97, 97]⟩, .int .i64 1] w fun e w' => e = .returned (.tuple #[.slice none 0 0, .int .i64 1]) ∧ ∃ m, w' = w.drewN m := by
  have ht := twice_any ⟨#[97, 97]⟩ w (by decide)
  rw [show twiceQ (bl ⟨#[97, 97]⟩) (⟨#[97, 97]⟩ : ByteArray).size = true by decide +kernel] at ht
  go_enter Try.func29, Try.ntmps29
  go_wp2_with fail
  refine ht.mono ?_
  rintro e w1 ⟨rfl, hd⟩
  clear ht
  go_wp2
  go_ret2
  exact ⟨rfl, hd⟩

/-- What is told of one place: whether it is fitted, and how the answer stands to it. -/
theorem cut_case (f : Nat → Bool) (lg : Bool) (N n : Nat) (h : n < N) :
    (f n = true ∧ pickI f lg N = (n : Int)) ∨ (f n = true ∧ ¬ (n : Int) = pickI f lg N ∧ 0 ≤ pickI f lg N ∧ if lg then (n : Int) ≤ pickI f lg N else pickI f lg N ≤ (n : Int)) ∨ (f n = false ∧ ¬ (n : Int) = pickI f lg N) := by
  rcases pickI_spec f lg N with ⟨h1, h2⟩ | ⟨m, hm, h1, h2, h3⟩
  · right; right
    rw [h1]
    exact ⟨h2 n h, by omega⟩
  · rw [h1]
    by_cases hnm : n = m
    · subst hnm; exact .inl ⟨h2, rfl⟩
    · cases hf : f n with
      | true =>
        right; left
        refine ⟨rfl, by omega, by omega, ?_⟩
        have := h3 n h hf
        cases lg <;> simp at this ⊢ <;> omega
      | false =>
        right; right
        exact ⟨rfl, by omega⟩
theorem pickI_ge (f : Nat → Bool) (lg : Bool) (n : Nat) : -1 ≤ pickI f lg n := by
  rcases pickI_spec f lg n with ⟨h1, _⟩ | ⟨m, _, h1, _⟩ <;> omega

set_option maxHeartbeats 8000000 in
set_option maxRecDepth 100000 in
theorem lawCuts_any (p : List It) (s : ByteArray) (lg : Bool) (v : Value) (w : World) (htp : Its w w.heap.size v p) :
    Calls Try.prog 11 #[v, .string s, .bool lg] w fun e w' => e = .returned (.bool true) ∧ Below w.heap.size w w' := by
  have hfp := few_any p v _ w htp
  obtain ⟨A, c, rfl, hc, hcm⟩ := htp.form
  unfold maxLen at hcm
  cases hf : fewP p with
  | false =>
    rw [hf] at hfp
    clear hf
    go_enter Try.func11, Try.ntmps11
    go_wp2_with fail
    refine hfp.mono ?_
    rintro e w1 ⟨rfl, rfl⟩
    go_wp2_with fail
    refine (awake_any _).mono ?_
    rintro e w6 ⟨rfl, hb6⟩
    go_wp2
    go_ret
    exact ⟨rfl, hb6⟩
  | true =>
    rw [hf] at hfp
    obtain ⟨hlp, hrs⟩ := few_parts hf
    clear hf
    by_cases hls : s.size ≤ 60
    · obtain ⟨x, hx⟩ : ∃ x, headI p (bl s) lg = x := ⟨_, rfl⟩
      obtain ⟨y, hy⟩ : ∃ y, tailI p (bl s) lg = y := ⟨_, rfl⟩
      have hx1 : -1 ≤ x := by rw [← hx]; exact pickI_ge _ _ _
      have hy1 : -1 ≤ y := by rw [← hy]; exact pickI_ge _ _ _
      have hx2 : x ≤ s.size := by
        have := pickI_lt (fun n => mt p ((bl s).take n)) lg ((bl s).length + 1)
        rw [show pickI (fun n => mt p ((bl s).take n)) lg ((bl s).length + 1) = x from hx, bl_len] at this
        omega
      have hy2 : y ≤ s.size := by
        have := pickI_lt (fun n => mt p ((bl s).drop ((bl s).length - n))) lg ((bl s).length + 1)
        rw [show pickI (fun n => mt p ((bl s).drop ((bl s).length - n))) lg ((bl s).length + 1) = y from hy, bl_len] at this
        omega
      have hcx := Lib.hid (fun n (h : n < s.size + 1) => by
        have := cut_case (fun n => mt p ((bl s).take n)) lg (s.size + 1) n h
        rw [show pickI (fun n => mt p ((bl s).take n)) lg (s.size + 1) = x by rw [← hx, ← bl_len]; rfl] at this
        exact this)
      have hcy := Lib.hid (fun n (h : n < s.size + 1) => by
        have := cut_case (fun n => mt p ((bl s).drop (s.size - n))) lg (s.size + 1) n h
        rw [show pickI (fun n => mt p ((bl s).drop (s.size - n))) lg (s.size + 1) = y by rw [← hy, ← bl_len]; rfl] at this
        exact this)
      have hhd := headG_any p _ s lg _ w htp (Nat.le_refl _) (by omega) (by omega)
      have htl := fun W hW => tailG_any p (.slice A p.length c) s lg W hW (by omega) (by omega)
      rw [hx] at hhd
      rw [hy] at htl
      clear hx hy
      go_enter Try.func11, Try.ntmps11
      go_wp2_with fail
      refine hfp.mono ?_
      rintro e w1 ⟨rfl, rfl⟩
      clear hfp
      go_wp2_with fail
      refine hhd.mono ?_
      rintro e w2 ⟨rfl, hb2⟩
      clear hhd
      go_wp2_with fail
      refine (htl _ ((htp.below hb2).more hb2.size)).mono ?_
      rintro e w3 ⟨rfl, hb3⟩
      clear htl
      have hbA := hb2.trans (hb3.mono hb2.size)
      clear hb2 hb3
      go_wp2_with fail
      go_loopw [9] (fun nv wr => ∃ n : Nat, n ≤ s.size + 1 ∧ nv = .int .i64 n ∧ Below w1.heap.size w1 wr) (fun nv _ => s.size + 1 - (intOf nv).toNat)
      case atStart => exact ⟨0, by omega, rfl, hbA⟩
      case round =>
        clear hbA
        obtain ⟨n, hn, rfl, hb⟩ := hrel
        have hsz := hb.size
        by_cases hlt : n < s.size + 1
        · have hcx2 := hcx.out n hlt
          have hcy2 := hcy.out n hlt
          have hma := match_any p _ (s.extract 0 n) _ wr (htp.below hb) hsz (by omega) (by simp; omega)
          have hmb := fun W hW => match_any p (.slice A p.length c) (s.extract (s.size - n) s.size) w1.heap.size W hW
          rw [bl_upto] at hma
          rw [bl_from] at hmb
          generalize mt p ((bl s).take n) = a at hma hcx2
          generalize mt p ((bl s).drop (s.size - n)) = b at hmb hcy2
          have hcx3 : (a = true ∧ ((n : Int) == x) = true ∧ ¬ x < 0 ∧ ¬ x < (n : Int) ∧ ¬ (n : Int) < x) ∨ (a = true ∧ ¬ (n : Int) = x ∧ ¬ x < 0 ∧ ((lg = true ∧ ¬ x < (n : Int)) ∨ (lg = false ∧ ¬ (n : Int) < x))) ∨ (a = false ∧ ¬ (n : Int) = x) := by
            rcases hcx2 with h | ⟨h1, h2, h3, h4⟩ | h
            · exact .inl ⟨h.1, by rw [beq_iff_eq]; exact h.2.symm, by omega, by omega, by omega⟩
            · refine .inr (.inl ⟨h1, h2, by omega, ?_⟩)
              cases lg
              · simp at h4; exact .inr ⟨rfl, by omega⟩
              · simp at h4; exact .inl ⟨rfl, by omega⟩
            · exact .inr (.inr h)
          have hcy3 : (b = true ∧ ((n : Int) == y) = true ∧ ¬ y < 0 ∧ ¬ y < (n : Int) ∧ ¬ (n : Int) < y) ∨ (b = true ∧ ¬ (n : Int) = y ∧ ¬ y < 0 ∧ ((lg = true ∧ ¬ y < (n : Int)) ∨ (lg = false ∧ ¬ (n : Int) < y))) ∨ (b = false ∧ ¬ (n : Int) = y) := by
            rcases hcy2 with h | ⟨h1, h2, h3, h4⟩ | h
            · exact .inl ⟨h.1, by rw [beq_iff_eq]; exact h.2.symm, by omega, by omega, by omega⟩
            · refine .inr (.inl ⟨h1, h2, by omega, ?_⟩)
              cases lg
              · simp at h4; exact .inr ⟨rfl, by omega⟩
              · simp at h4; exact .inl ⟨rfl, by omega⟩
            · exact .inr (.inr h)
          clear hcx2 hcy2 hcx hcy
          have hkI : (n : Int) ≤ (s.size : Int) := by omega
          have hk1 : ((s.size : Int) - (n : Int)) = ((s.size - n : Nat) : Int) := by omega
          go_wp2_with fail
          refine hma.mono ?_
          rintro e w4 ⟨rfl, hb4⟩
          clear hma
          have hb5 := hb.trans (hb4.mono hsz)
          clear hb hb4
          go_wp2_with fail
          refine (hmb _ (htp.below hb5) hb5.size (by omega) (by simp; omega)).mono ?_
          rintro e w6 ⟨rfl, hb6⟩
          have hb7 := hb5.trans (hb6.mono hb5.size)
          clear hmb hb5 hb6 hk1
          cases lg
          all_goals
            simp only [Bool.false_eq_true, false_and, true_and, or_false, false_or, reduceCtorEq] at hcx3 hcy3
            rcases hcx3 with ⟨rfl, h1, h2, h3, h4⟩ | ⟨rfl, h1, h2, h3⟩ | ⟨rfl, h1⟩
            all_goals
              rcases hcy3 with ⟨rfl, g1, g2, g3, g4⟩ | ⟨rfl, g1, g2, g3⟩ | ⟨rfl, g1⟩
              all_goals
                go_wp2
                go_roundw
                case rel => exact ⟨n + 1, by omega, by go_num, hb7⟩
                case measure => simp [intOf]; omega
        · clear hcx hcy
          go_wp2_with fail
          refine (allAA_any _ _).mono ?_
          rintro e w4 ⟨rfl, d, rfl⟩
          have hb5 := below_drewN hb d
          clear hb
          go_wp2_with fail
          refine (awake_any _).mono ?_
          rintro e w6 ⟨rfl, hb6⟩
          go_wp2
          go_ret
          exact ⟨rfl, hb5.trans (hb6.mono hb5.size)⟩
    · go_enter Try.func11, Try.ntmps11
      go_wp2_with fail
      refine hfp.mono ?_
      rintro e w1 ⟨rfl, rfl⟩
      go_wp2_with fail
      refine (awake_any _).mono ?_
      rintro e w6 ⟨rfl, hb6⟩
      go_wp2
      go_ret
      exact ⟨rfl, hb6⟩
end Go.Proofs.Ytnioneknlgbhoaa
