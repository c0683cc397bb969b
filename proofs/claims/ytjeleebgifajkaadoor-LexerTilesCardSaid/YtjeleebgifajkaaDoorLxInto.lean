/-
  What is one word, and what a hole is with a word in it; what a thing's bytes are alone; what stands between. Conditions: none.
-/
import Derived.Test.YtjeleebgifajkaaDoorLxMore
set_option linter.unusedSimpArgs false
set_option linter.unusedVariables false
namespace Go.Proofs.YtjeleebgifajkaaDoor
open Go

/-- Between ' and ' : all bytes but '. -/
theorem scan_single {m r : List UInt8} (h : ∀ c ∈ m, c ≠ 39) : scan (m ++ 39 :: r) [39] = some (m.length + 1) := by
  induction m with
  | nil =>
    rw [List.nil_append, scan_step (.inl rfl), if_pos (by decide)]; rfl
  | cons c m ih =>
    have hc : c ≠ 39 := h c (by simp)
    rw [List.cons_append, scan_step (.inl rfl), if_neg (by simpa [closeB] using hc)]
    have : partP 39 (c :: (m ++ 39 :: r)) = some 1 := by simp [partP, stp, hc, scan_nil]
    rw [this, Option.bind_some, List.drop_succ_cons, List.drop_zero, ih (fun d hd => h d (by simp [hd]))]
    simp
/-- Between " and " : all bytes but ", \, $ and `. -/
theorem scan_double {m r : List UInt8} (h : ∀ c ∈ m, c ≠ 34 ∧ c ≠ 92 ∧ c ≠ 36 ∧ c ≠ 96) : scan (m ++ 34 :: r) [34] = some (m.length + 1) := by
  induction m with
  | nil =>
    rw [List.nil_append, scan_step (.inr (.inl rfl)), if_pos (by decide)]; rfl
  | cons c m ih =>
    obtain ⟨h1, h2, h3, h4⟩ := h c (by simp)
    rw [List.cons_append, scan_step (.inr (.inl rfl)), if_neg (by simpa [closeB] using h1)]
    have : partP 34 (c :: (m ++ 34 :: r)) = some 1 := by simp [partP, stp, h1, h2, h3, h4, scan_nil]
    rw [this, Option.bind_some, List.drop_succ_cons, List.drop_zero, ih (fun d hd => h d (by simp [hd]))]
    simp
theorem scan_quoted {q : UInt8} {m : List UInt8} (hq : q = 39 ∨ q = 34) (h : scan (m ++ [q, 121]) [q] = some (m.length + 1)) : scan (120 :: q :: (m ++ [q, 121])) [119] = some (m.length + 4) := by
  have e1 : partP 119 (120 :: q :: (m ++ [q, 121])) = some 1 := by simp [partP, stp, scan_nil]
  have e2 : partP 119 (q :: (m ++ [q, 121])) = some (m.length + 2) := by
    rcases hq with rfl | rfl <;> simp [partP, stp, h]
  have e3 : endsB q = false := by rcases hq with rfl | rfl <;> decide
  have e4 : scan [121] [119] = some 1 := by decide
  rw [scan_word, if_neg (by decide), e1, Option.bind_some, List.drop_succ_cons, List.drop_zero, scan_word, if_neg (by rw [e3]; decide), e2, Option.bind_some]
  have e5 : (q :: (m ++ [q, 121])).drop (m.length + 2) = [121] := by
    rw [show m.length + 2 = (m.length + 1) + 1 from rfl, List.drop_succ_cons, List.drop_append, List.drop_of_length_le (by omega)]
    simp
  rw [e5, e4]
  simp
  omega
/-- The whole of a text is one thing, a word. -/
theorem nextP_whole {l : List UInt8} {c : UInt8} {r : List UInt8} (hl : l = c :: r) (h1 : c ≠ 32 ∧ c ≠ 9 ∧ c ≠ 35 ∧ c ≠ 10) (h2 : ¬ (c = 92 ∧ r.headD 0 = 10)) (h3 : ops1.contains [c] = false) (hs : scan l [119] = some l.length) : nextP l 0 = (4, 0, l.length) := by
  obtain ⟨n1, n2, n3, n4⟩ := h1
  have hsk : skip l = 0 := by rw [hl]; exact skip_none r (fun h => h.elim n1 n2) n3 h2
  unfold nextP
  rw [List.drop_zero, hsk]
  dsimp only
  rw [Nat.add_zero, List.drop_zero, if_neg (by rw [hl]; simp), hs]
  have h10 : ¬ l.headD 0 = 10 := by rw [hl]; exact n4
  have ho : opN l = 0 := by rw [hl]; exact op_zero h3
  rw [if_neg h10, if_neg (by rw [ho]; simp)]
  simp only [Nat.zero_add]
  rw [List.drop_of_length_le (Nat.le_refl _)]
  simp [redir]

/-- What counts as a whole stays so ahead of a ). -/
theorem partP_app {x : List UInt8} {n : Nat} (z : List UInt8) (h : partP 119 x = some n) : partP 119 (x ++ 41 :: z) = some n := by
  unfold partP at h ⊢
  cases hs : stp x 119 with
  | none => rw [hs] at h; cases h
  | some q =>
    obtain ⟨k, ts⟩ := q
    rw [hs] at h
    have hk := stp_pos hs
    simp only [Option.map_eq_some_iff] at h
    obtain ⟨j, hj, rfl⟩ := h
    have h9 : ∀ u ∈ ts.dropLast, u ≠ 119 := by
      rcases stp_top hs with ⟨rfl, _⟩ | rfl | ⟨d, rfl, hd⟩
      · simp
      · simp
      · simpa using hd
    rw [stp_app hs (.inr (by simp))]
    simp only [Option.map_eq_some_iff]
    rw [drop_app hk.2]
    exact ⟨j, scan_more hj (.inr h9), rfl⟩
/-- A word ahead of a ) closes what a ( opened. -/
theorem scan_hole {x : List UInt8} (z : List UInt8) (h : scan x [119] = some x.length) : scan (x ++ 41 :: z) [40] = some (x.length + 1) := by
  obtain ⟨m, hm⟩ : ∃ m, x.length = m := ⟨_, rfl⟩
  induction m using Nat.strongRecOn generalizing x with
  | _ m ih =>
    cases x with
    | nil => rw [List.nil_append, scan_step (.inr (.inr (.inr (.inl rfl)))), if_pos (by decide)]; rfl
    | cons c r =>
      rw [scan_word] at h
      by_cases he : endsB c = true
      · rw [if_pos he] at h; simp at h
      · rw [if_neg he] at h
        cases hp : partP 119 (c :: r) with
        | none => rw [hp] at h; cases h
        | some n =>
          rw [hp] at h
          simp only [Option.bind_some, Option.map_eq_some_iff] at h
          obtain ⟨j, hj, hjn⟩ := h
          have hpos := partP_pos hp
          have h41 : c ≠ 41 := by rintro rfl; exact he (by decide)
          have h40 : c ≠ 40 := by rintro rfl; exact he (by decide)
          have e1 : partP 40 (c :: r ++ 41 :: z) = some n := by
            rw [List.cons_append, part_wh (.inr (.inr ⟨rfl, h41, h40⟩)), ← part_wh (.inr (.inl rfl)), ← List.cons_append]
            exact partP_app z hp
          have hl : ((c :: r).drop n).length = j := by rw [List.length_drop]; omega
          rw [List.cons_append, scan_step (.inr (.inr (.inr (.inl rfl)))), if_neg (by simpa [closeB] using h41), ← List.cons_append, e1, Option.bind_some, drop_app hpos.2, ih ((c :: r).drop n).length (by rw [List.length_drop]; omega) (by rw [hl]; exact hj) rfl, hl]
          simp
          simp at hjn
          omega
theorem hole_one {x : List UInt8} (h : scan x [119] = some x.length) : holeP (36 :: 40 :: (x ++ [41])) = some (x.length + 3) := by
  simp [holeP, scan_hole [] h]
theorem hole_two {x : List UInt8} (h : scan x [119] = some x.length) : holeP (36 :: 40 :: 40 :: (x ++ 41 :: 32 :: (x ++ [41, 122]))) = some (2 * x.length + 6) := by
  have e1 := scan_hole (32 :: (x ++ [41, 122])) h
  have e2 := scan_hole [122] h
  have e3 : scan (32 :: (x ++ [41, 122])) [40] = some (x.length + 2) := by
    rw [scan_step (.inr (.inr (.inr (.inl rfl)))), if_neg (by decide)]
    have : partP 40 (32 :: (x ++ [41, 122])) = some 1 := by simp [partP, stp, scan_nil]
    rw [this, Option.bind_some, List.drop_succ_cons, List.drop_zero, e2]
    simp
  have e4 : scan (x ++ 41 :: 32 :: (x ++ [41, 122])) [40, 40] = some (2 * x.length + 3) := by
    have := scan_app (us := [40]) (by simp) (x ++ 41 :: 32 :: (x ++ [41, 122])) [40]
    rw [List.cons_append, List.nil_append] at this
    rw [this, e1, Option.bind_some]
    have e5 : (x ++ 41 :: 32 :: (x ++ [41, 122])).drop (x.length + 1) = 32 :: (x ++ [41, 122]) := by
      rw [List.drop_append, List.drop_of_length_le (by omega)]
      simp
    rw [e5, e3]
    simp
    omega
  have e6 : scan (40 :: (x ++ 41 :: 32 :: (x ++ [41, 122]))) [40] = some (2 * x.length + 4) := by
    rw [scan_cons (by simp)]
    rw [if_neg (fun h => absurd h.1 (by decide))]
    have : stp (40 :: (x ++ 41 :: 32 :: (x ++ [41, 122]))) 40 = some (1, [40, 40]) := by simp [stp]
    rw [this]
    simp only [List.append_nil, List.drop_succ_cons, List.drop_zero]
    rw [e4]
    simp
  simp [holeP, e6]
end Go.Proofs.YtjeleebgifajkaaDoor
