/-
  What stands behind a text, or is cut off from it, and what stays: scan, skip, opN and nextP of texts one behind the other. Conditions: none.
-/
import Derived.Test.YtjeleebgifajkaaDoorLxTok
set_option linter.unusedSimpArgs false
set_option linter.unusedVariables false
namespace Go.Proofs.YtjeleebgifajkaaDoor
open Go

section
variable {x y : List UInt8} {t : UInt8} {k n : Nat} {ts st : List UInt8}
theorem stp_cons (c : UInt8) (r : List UInt8) (t : UInt8) : stp (c :: r) t =
    if t = 39 then some (1, if c = 39 then [] else [t])
    else if c = 92 then (if r = [] then none else some (2, [t]))
    else if t = 96 ∨ (t = 34 ∧ c = 34) then some (1, if c = t then [] else [t])
    else if c = 36 ∧ (r.headD 0 = 40 ∨ r.headD 0 = 123) then some (2, [r.headD 0, t])
    else if c = 96 ∨ (t ≠ 34 ∧ (c = 39 ∨ c = 34)) ∨ (t = 40 ∧ c = 40) then some (1, [c, t])
    else some (1, if (t = 40 ∧ c = 41) ∨ (t = 123 ∧ c = 125) then [] else [t]) := rfl
/-- A step sees two bytes. -/
theorem stp_two (c d : UInt8) (r r' : List UInt8) (t : UInt8) : stp (c :: d :: r) t = stp (c :: d :: r') t := by simp [stp]
theorem stp_app (h : stp x t = some (k, ts)) (hx : x ≠ [36] ∨ y.headD 0 ≠ 40 ∧ y.headD 0 ≠ 123) : stp (x ++ y) t = some (k, ts) := by
  match x, h with
  | [], h => cases h
  | [c], h =>
    by_cases h36 : c = 36
    · subst h36
      rcases hx with hx | ⟨h1, h2⟩
      · exact absurd rfl hx
      · rw [← h, List.cons_append, List.nil_append, stp_cons, stp_cons]
        have e1 : ¬ (y.headD 0 = 40 ∨ y.headD 0 = 123) := fun h => h.elim h1 h2
        have e2 : ¬ (([] : List UInt8).headD 0 = 40 ∨ ([] : List UInt8).headD 0 = 123) := by decide
        simp only [e1, e2, and_false, if_false, show ¬ (36 : UInt8) = 92 by decide]
    · by_cases h92 : c = 92
      · subst h92
        rw [List.cons_append, List.nil_append]
        rw [stp_cons] at h ⊢
        by_cases ht : t = 39
        · rw [if_pos ht] at h ⊢; exact h
        · rw [if_neg ht, if_pos rfl, if_pos rfl] at h; cases h
      · rw [← h]; simp [stp, h36, h92]
  | c :: d :: r, h => rw [← h]; exact stp_two _ _ _ _ _
theorem drop_app (hk : k ≤ x.length) : (x ++ y).drop k = x.drop k ++ y := by rw [List.drop_append_of_le_length hk]
/-- What ends ahead of the end, or is closed, stays. -/
theorem scan_more (h : scan x st = some n) (hn : n < x.length ∨ ∀ u ∈ st, u ≠ 119) : scan (x ++ y) st = some n := by
  obtain ⟨m, hm⟩ : ∃ m, x.length = m := ⟨_, rfl⟩
  induction m using Nat.strongRecOn generalizing x st n with
  | _ m ih =>
    cases st with
    | nil => rw [scan_nil] at h ⊢; exact h
    | cons t st =>
      by_cases hx : x = []
      · subst hx
        rw [scan_end] at h
        split at h
        · rename_i h1
          cases h
          rcases hn with hn | hn
          · simp at hn
          · exact absurd h1.1 (hn t (by simp))
        · cases h
      · rw [scan_cons hx] at h
        rw [scan_cons (by simp [hx])]
        have hh : (x ++ y).headD 0 = x.headD 0 := by cases x with | nil => exact absurd rfl hx | cons c r => rfl
        rw [hh]
        split
        · rename_i h1; rw [if_pos h1] at h; exact h
        · rename_i h1
          rw [if_neg h1] at h
          cases hs : stp x t with
          | none => rw [hs] at h; cases h
          | some q =>
            obtain ⟨k, ts⟩ := q
            rw [hs] at h
            simp only [Option.map_eq_some_iff] at h
            obtain ⟨j, hj, rfl⟩ := h
            have hk := stp_pos hs
            have hnew : j < (x.drop k).length ∨ ∀ u ∈ ts ++ st, u ≠ 119 := by
              rcases hn with hn | hn
              · exact .inl (by rw [List.length_drop]; omega)
              · right
                intro u hu
                rcases List.mem_append.1 hu with hu | hu
                · rcases stp_top hs with ⟨rfl, _⟩ | rfl | ⟨c, rfl, hc⟩
                  · cases hu
                  · simp at hu; subst hu; exact hn _ (by simp)
                  · simp at hu; rcases hu with rfl | rfl
                    · exact hc
                    · exact hn _ (by simp)
                · exact hn u (by simp [hu])
            have h36 : x ≠ [36] ∨ y.headD 0 ≠ 40 ∧ y.headD 0 ≠ 123 := by
              by_cases h36 : x = [36]
              · exfalso
                subst h36
                have hk1 : k = 1 := by simp at hk; omega
                subst hk1
                rcases hnew with hnew | hnew
                · simp at hnew
                · have hj2 : scan [] (ts ++ st) = some j := hj
                  cases hl : ts ++ st with
                  | nil =>
                    have e1 : ts = [] := (List.append_eq_nil_iff.1 hl).1
                    subst e1
                    by_cases h39 : t = 39
                    · subst h39; simp [stp] at hs
                    · by_cases h96 : t = 96
                      · subst h96; simp [stp] at hs
                      · simp [stp, h39, h96] at hs
                  | cons u us =>
                    rw [hl, scan_end] at hj2
                    rw [hl] at hnew
                    rw [if_neg (fun h => hnew u (by simp) h.1)] at hj2
                    cases hj2
              · exact .inl h36
            rw [stp_app hs h36]
            simp only [Option.map_eq_some_iff]
            rw [drop_app hk.2]
            exact ⟨j, ih (x.drop k).length (by rw [List.length_drop]; omega) hj hnew rfl, rfl⟩
theorem stp_take (h : stp x t = some (k, ts)) (hk : k ≤ n) : stp (x.take n) t = some (k, ts) := by
  match x, h with
  | [], h => cases h
  | [c], h =>
    have := (stp_pos h).1
    rw [List.take_of_length_le (by simp; omega)]; exact h
  | c :: d :: r, h =>
    obtain ⟨n, rfl⟩ : ∃ m, n = m + 1 := ⟨n - 1, by have := (stp_pos h).1; omega⟩
    cases n with
    | zero =>
      rw [List.take_succ_cons, List.take_zero]
      have hk1 : k = 1 := by have := (stp_pos h).1; omega
      subst hk1
      rw [stp_cons] at h ⊢
      by_cases h39 : t = 39
      · rw [if_pos h39] at h ⊢; exact h
      · rw [if_neg h39] at h ⊢
        by_cases h92 : c = 92
        · rw [if_pos h92] at h; simp at h
        · rw [if_neg h92] at h ⊢
          by_cases h96 : t = 96 ∨ t = 34 ∧ c = 34
          · rw [if_pos h96] at h ⊢; exact h
          · rw [if_neg h96] at h ⊢
            by_cases h36 : c = 36 ∧ ((d :: r).headD 0 = 40 ∨ (d :: r).headD 0 = 123)
            · rw [if_pos h36] at h; simp at h
            · rw [if_neg h36] at h
              rw [if_neg (by simp)]
              exact h
    | succ n => rw [List.take_succ_cons, List.take_succ_cons, stp_two c d _ r]; exact h
/-- A word may be at the bottom alone. -/
def Bot : List UInt8 → Prop
  | [] => True
  | [_] => True
  | t :: u :: st => t ≠ 119 ∧ Bot (u :: st)
theorem bot_tail {t : UInt8} {st : List UInt8} (h : Bot (t :: st)) : Bot st := by
  cases st with
  | nil => trivial
  | cons u st => exact h.2
/-- What was gone over is gone over alone, too. -/
theorem scan_take (h : scan x st = some n) (hst : Bot st) : scan (x.take n) st = some n := by
  obtain ⟨m, hm⟩ : ∃ m, x.length = m := ⟨_, rfl⟩
  induction m using Nat.strongRecOn generalizing x st n with
  | _ m ih =>
    cases st with
    | nil => rw [scan_nil] at h ⊢; exact h
    | cons t st =>
      by_cases hx : x = []
      · subst hx; rw [List.take_nil]; exact h
      · rw [scan_cons hx] at h
        by_cases h1 : t = 119 ∧ endsB (x.headD 0) = true
        · rw [if_pos h1] at h
          cases h
          rw [List.take_zero, scan_end]
          cases st with
          | nil => rw [if_pos ⟨h1.1, rfl⟩]
          | cons u st => exact absurd h1.1 hst.1
        · rw [if_neg h1] at h
          cases hs : stp x t with
          | none => rw [hs] at h; cases h
          | some q =>
            obtain ⟨k, ts⟩ := q
            rw [hs] at h
            simp only [Option.map_eq_some_iff] at h
            obtain ⟨j, hj, rfl⟩ := h
            have hk := stp_pos hs
            have hb : Bot (ts ++ st) := by
              rcases stp_top hs with ⟨rfl, _⟩ | rfl | ⟨c, rfl, hc⟩
              · exact bot_tail hst
              · exact hst
              · exact ⟨hc, hst⟩
            have hne : x.take (j + k) ≠ [] := by
              intro e
              have := congrArg List.length e
              rw [List.length_take, List.length_nil] at this
              omega
            have hh : (x.take (j + k)).headD 0 = x.headD 0 := by
              cases x with
              | nil => exact absurd rfl hx
              | cons c r =>
                obtain ⟨i, hi⟩ : ∃ i, j + k = i + 1 := ⟨j + k - 1, by omega⟩
                rw [hi]; rfl
            rw [scan_cons hne, hh, if_neg h1, stp_take hs (by omega)]
            simp only [Option.map_eq_some_iff]
            refine ⟨j, ?_, rfl⟩
            rw [show (x.take (j + k)).drop k = (x.drop k).take j by rw [List.drop_take]; congr 1; omega]
            exact ih (x.drop k).length (by rw [List.length_drop]; omega) hj hb rfl
end

section
variable {x y : List UInt8} {k : Nat}
theorem lineN_app (h : lineN x < x.length) : lineN (x ++ y) = lineN x := by
  induction x with
  | nil => simp at h
  | cons c r ih =>
    unfold lineN at h ⊢
    rw [List.cons_append]
    simp only
    split
    · rfl
    · rename_i hc
      rw [if_neg hc] at h
      rw [ih (by simp at h; omega)]
/-- What stands between stays, where a thing is known to begin behind it. -/
theorem skip_app {c : UInt8} {r : List UInt8} (h : x.drop (skip x) = c :: r) (hc : ¬ (c = 92 ∧ r = [])) : skip (x ++ y) = skip x := by
  obtain ⟨m, hm⟩ : ∃ m, x.length = m := ⟨_, rfl⟩
  induction m using Nat.strongRecOn generalizing x with
  | _ m ih =>
    match x, hm with
    | [], _ => simp at h
    | a :: s, hm =>
      by_cases h1 : a = 32 ∨ a = 9
      · rw [skip_blank s h1, List.drop_succ_cons] at h
        rw [List.cons_append, skip_blank _ h1, skip_blank _ h1, ih s.length (by simp at hm; omega) h rfl]
      · by_cases h2 : a = 35
        · subst h2
          rw [skip_hash] at h
          rw [List.cons_append, skip_hash, skip_hash, ← List.cons_append, lineN_app]
          have := congrArg List.length h
          simp at this ⊢
          omega
        · by_cases h3 : a = 92 ∧ s.headD 0 = 10
          · obtain ⟨rfl, h3⟩ := h3
            cases s with
            | nil => exact absurd h3 (by decide)
            | cons d s =>
              simp only [List.headD_cons] at h3
              subst h3
              rw [skip_join] at h
              rw [List.cons_append, List.cons_append, skip_join, skip_join]
              rw [ih s.length (by simp at hm; omega) h rfl]
          · rw [skip_none s h1 h2 h3, List.drop_zero] at h
            injection h with ha hs
            subst ha hs
            rw [skip_none _ h1 h2 h3, List.cons_append, skip_none _ h1 h2]
            rintro ⟨rfl, h4⟩
            cases s with
            | nil => exact hc ⟨rfl, rfl⟩
            | cons d s => exact h3 ⟨rfl, by simpa using h4⟩
theorem op_zero {c : UInt8} {r : List UInt8} (h : ops1.contains [c] = false) : opN (c :: r) = 0 := by
  have hne : ¬ (c = 38 ∨ c = 124 ∨ c = 59 ∨ c = 60 ∨ c = 62 ∨ c = 40 ∨ c = 41) := by
    intro h2
    rw [← Bool.not_eq_true, List.contains_iff_mem] at h
    apply h
    rcases h2 with rfl | rfl | rfl | rfl | rfl | rfl | rfl <;> simp [ops1]
  simp only [not_or] at hne
  unfold opN
  rw [if_neg (by cases r with | nil => simp | cons d r => cases r <;> simp [hne]), if_neg, if_neg]
  · rw [show (c :: r).take 1 = [c] by simp, h]; decide
  · rw [List.contains_iff_mem]
    intro hm
    cases r with
    | nil => simp [ops2] at hm
    | cons d r => simp [ops2, hne] at hm
/-- An op that ends ahead of the end stays. -/
theorem opN_app (h : opN x < x.length) : opN (x ++ y) = opN x := by
  match x, h with
  | [], h => simp at h
  | [a], h =>
    have h0 : opN [a] = 0 := by simp at h; exact h
    rw [h0, List.cons_append]
    exact op_zero (op_head h0)
  | [a, b], h =>
    by_cases h0 : opN [a, b] = 0
    · rw [h0, List.cons_append]; exact op_zero (op_head h0)
    · have h1 : opN [a, b] = 1 := by simp at h; omega
      rw [h1]
      have hh := h1
      unfold opN at hh ⊢
      have e1 : ([a, b] ++ y).take 2 = [a, b] := by simp
      have e2 : ([a, b] : List UInt8).take 2 = [a, b] := rfl
      have e3 : ([a, b] ++ y).take 1 = [a, b].take 1 := by simp
      rw [e2] at hh
      rw [e1, e3]
      by_cases h3 : ([a, b] : List UInt8).take 3 = [60, 60, 45]
      · simp at h3
      · rw [if_neg h3] at hh
        by_cases h2 : ops2.contains [a, b] = true
        · rw [if_pos h2] at hh; omega
        · rw [if_neg h2] at hh ⊢
          rw [hh]
          by_cases h4 : ([a, b] ++ y).take 3 = [60, 60, 45]
          · exfalso
            have : a = 60 ∧ b = 60 := by
              cases y with
              | nil => simp at h4
              | cons c y => simp at h4; exact ⟨h4.1, h4.2.1⟩
            obtain ⟨rfl, rfl⟩ := this
            exact h2 (by decide)
          · rw [if_neg h4]
  | a :: b :: c :: r, _ => simp [opN]
theorem headD_app (h : x ≠ []) : (x ++ y).headD 0 = x.headD 0 := by cases x with | nil => exact absurd rfl h | cons c r => rfl
/-- A thing that ends ahead of the end of a text is the same, whatever stands behind it. -/
theorem nextP_app (hk : k ≤ x.length) (h0 : (nextP x k).1 ≠ 0) (h5 : (nextP x k).1 ≠ 5) (hb : (nextP x k).2.2 < x.length) : nextP (x ++ y) k = nextP x k := by
  have hb1 : k + skip (x.drop k) ≤ x.length := by have := skip_le (x.drop k); rw [List.length_drop] at this; omega
  obtain ⟨b, hbb⟩ : ∃ b, k + skip (x.drop k) = b := ⟨_, rfl⟩
  have hne : x.drop b ≠ [] := by
    intro e
    apply h0
    unfold nextP
    rw [hbb]
    simp only [e, if_true]
  obtain ⟨c, r, hx⟩ := List.exists_cons_of_ne_nil hne
  have hdd : (x.drop k).drop (skip (x.drop k)) = c :: r := by rw [List.drop_drop, hbb]; exact hx
  have hc : ¬ (c = 92 ∧ r = []) := by
    rintro ⟨rfl, rfl⟩
    apply h5
    unfold nextP
    rw [hbb]
    have hs : scan [92] [119] = none := by decide
    simp only [hx, List.headD_cons, hs]
    rfl
  have hsk : skip ((x ++ y).drop k) = skip (x.drop k) := by
    rw [drop_app hk]
    exact skip_app hdd hc
  have hbx : b ≤ x.length := by omega
  have hdb : (x ++ y).drop b = x.drop b ++ y := drop_app hbx
  have hnn : x.drop b ++ y ≠ [] := by simp [hne]
  revert h5 hb
  unfold nextP
  rw [hsk, hbb]
  dsimp only
  rw [hdb, if_neg hne, if_neg hnn, headD_app hne]
  by_cases h10 : (x.drop b).headD 0 = 10
  · rw [if_pos h10, if_pos h10]; intros; trivial
  · rw [if_neg h10, if_neg h10]
    by_cases ho : opN (x.drop b) ≠ 0
    · rw [if_pos ho]
      intro _ hlt
      simp only at hlt
      rw [opN_app (by rw [List.length_drop]; omega), if_pos ho]
    · rw [if_neg ho]
      have ho2 : opN (x.drop b ++ y) = 0 := by
        rw [hx] at ho ⊢
        rw [List.cons_append]
        exact op_zero (op_head (by simpa using ho))
      rw [if_neg (by rw [ho2]; simp)]
      cases hs : scan (x.drop b) [119] with
      | none => intro h5; exact absurd rfl h5
      | some n =>
        intro _ hlt
        simp only at hlt
        rw [scan_more hs (.inl (by rw [List.length_drop]; omega))]
        have e1 : (x.drop b ++ y).take n = (x.drop b).take n := by rw [List.take_append_of_le_length (by rw [List.length_drop]; omega)]
        have e2 : redir ((x ++ y).drop (b + n)) = redir (x.drop (b + n)) := by
          unfold redir
          rw [drop_app (by omega), headD_app]
          intro e
          have := congrArg List.length e
          simp at this
          omega
        simp only [e1, e2]
end
end Go.Proofs.YtjeleebgifajkaaDoor
