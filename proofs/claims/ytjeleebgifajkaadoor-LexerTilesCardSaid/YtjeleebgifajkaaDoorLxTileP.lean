/-
  What a thing's bytes are alone; what stands between things has none. Conditions: none.
-/
import Derived.Test.YtjeleebgifajkaaDoorLxInto
set_option linter.unusedSimpArgs false
set_option linter.unusedVariables false
namespace Go.Proofs.YtjeleebgifajkaaDoor
open Go

theorem op_take (x : List UInt8) : opN (x.take (opN x)) = opN x := by
  by_cases h3 : x.take 3 = [60, 60, 45]
  · have e : opN x = 3 := by unfold opN; rw [if_pos h3]
    rw [e, h3]; decide
  · by_cases h2 : ops2.contains (x.take 2) = true
    · have e : opN x = 2 := by unfold opN; rw [if_neg h3, if_pos h2]
      rw [e]
      rw [List.contains_iff_mem] at h2
      simp only [ops2, List.mem_cons, List.not_mem_nil, or_false] at h2
      rcases h2 with h | h | h | h | h | h | h | h | h <;> rw [h] <;> decide
    · by_cases h1 : ops1.contains (x.take 1) = true
      · have e : opN x = 1 := by unfold opN; rw [if_neg h3, if_neg h2, if_pos h1]
        rw [e]
        rw [List.contains_iff_mem] at h1
        simp only [ops1, List.mem_cons, List.not_mem_nil, or_false] at h1
        rcases h1 with h | h | h | h | h | h | h <;> rw [h] <;> decide
      · have e : opN x = 0 := by unfold opN; rw [if_neg h3, if_neg h2, if_neg h1]
        rw [e, List.take_zero]; decide
/-- A thing's bytes alone are a thing, too. -/
theorem nextP_alone {l : List UInt8} {k : Nat} (hk : k ≤ l.length) (h0 : (nextP l k).1 ≠ 0) (h5 : (nextP l k).1 ≠ 5) :
    ∃ q, q ≠ 0 ∧ q ≠ 5 ∧ nextP ((l.drop (nextP l k).2.1).take ((nextP l k).2.2 - (nextP l k).2.1)) 0 = (q, 0, (nextP l k).2.2 - (nextP l k).2.1) := by
  have hb1 : k + skip (l.drop k) ≤ l.length := by have := skip_le (l.drop k); rw [List.length_drop] at this; omega
  have hst := skip_stop (l.drop k)
  rw [List.drop_drop] at hst
  revert h0 h5
  unfold nextP
  generalize k + skip (l.drop k) = b at hb1 hst
  dsimp only
  by_cases hne : l.drop b = []
  · rw [if_pos hne]; intro h0; exact absurd rfl h0
  · rw [if_neg hne]
    obtain ⟨c, r, hx⟩ := List.exists_cons_of_ne_nil hne
    rw [hx] at hst ⊢
    obtain ⟨n1, n2, n3, n4⟩ := skip_head hst
    by_cases h10 : c = 10
    · subst h10
      rw [List.headD_cons, if_pos rfl]
      intro _ _
      refine ⟨1, by decide, by decide, ?_⟩
      dsimp only
      rw [show b + 1 - b = 1 by omega, hx, List.take_succ_cons, List.take_zero]
      decide
    · rw [List.headD_cons, if_neg h10]
      by_cases ho : opN (c :: r) ≠ 0
      · rw [if_pos ho]
        intro _ _
        refine ⟨2, by decide, by decide, ?_⟩
        dsimp only
        rw [show b + opN (c :: r) - b = opN (c :: r) by omega, hx]
        have hol := (opN_le (c :: r)).1
        have ht := op_take (c :: r)
        obtain ⟨m, hm⟩ : ∃ m, opN (c :: r) = m + 1 := ⟨opN (c :: r) - 1, by omega⟩
        rw [hm] at ht ⊢ hol
        rw [List.take_succ_cons] at ht ⊢
        have hs0 : skip (c :: r.take m) = 0 := by
          refine skip_none _ (fun h => h.elim n1 n2) n3 (fun h => n4 ⟨h.1, ?_⟩)
          cases r with
          | nil => have := h.2; rw [List.take_nil] at this; exact this
          | cons d r => cases m with
            | zero => have := h.2; rw [List.take_zero] at this; exact absurd this (by decide)
            | succ m => exact h.2
        simp only [List.drop_zero, hs0, Nat.zero_add, List.headD_cons, h10, ht, if_false]
        simp
      · rw [if_neg ho]
        simp only [ne_eq, Decidable.not_not] at ho
        cases hs : scan (c :: r) [119] with
        | none => intro _ h5; exact absurd rfl h5
        | some n =>
          intro _ _
          dsimp only
          have hle := scan_le hs
          rw [List.length_cons] at hle
          have hen := ends_of n1 n2 h10 (op_head ho)
          have hpos : 0 < n := by
            rw [scan_word, if_neg (by rw [hen]; decide)] at hs
            cases hp : partP 119 (c :: r) with
            | none => rw [hp] at hs; cases hs
            | some j =>
              rw [hp] at hs
              simp only [Option.bind_some, Option.map_eq_some_iff] at hs
              obtain ⟨i, _, rfl⟩ := hs
              have := partP_pos hp
              omega
          have htk := scan_take hs (by trivial : Bot [119])
          refine ⟨4, by decide, by decide, ?_⟩
          rw [show b + n - b = n by omega, hx]
          obtain ⟨m, rfl⟩ : ∃ m, n = m + 1 := ⟨n - 1, by omega⟩
          have hlen : ((c :: r).take (m + 1)).length = m + 1 := by rw [List.length_take, List.length_cons]; omega
          have := nextP_whole (l := (c :: r).take (m + 1)) (c := c) (r := r.take m) (by rw [List.take_succ_cons]) ⟨n1, n2, n3, h10⟩ (fun h => n4 ⟨h.1, ?_⟩) (op_head ho) (by rw [hlen]; exact htk)
          · rw [hlen] at this; exact this
          · have h2 := h.2
            cases r with
            | nil => rw [List.take_nil] at h2; exact h2
            | cons d r => cases m with
              | zero => rw [List.take_zero] at h2; exact absurd h2 (by decide)
              | succ m => exact h2

/-- As 'nothing' goes. -/
def nothB : List UInt8 → Bool
  | [] => true
  | [c] => if c = 35 then true else if c = 32 ∨ c = 9 then true else false
  | c :: d :: r => if c = 92 ∧ d = 10 then nothB r else if c = 35 then decide (lineN (c :: d :: r) = r.length + 2) else if c = 32 ∨ c = 9 then nothB (d :: r) else false
theorem noth_one (c : UInt8) (h : c = 32 ∨ c = 9) (r : List UInt8) : nothB (c :: r) = nothB r := by
  have h92 : c ≠ 92 := by rcases h with rfl | rfl <;> decide
  have h35 : c ≠ 35 := by rcases h with rfl | rfl <;> decide
  cases r with
  | nil => simp [nothB, h, h35]
  | cons d r => rw [nothB.eq_def]; simp only; rw [if_neg (fun hh => h92 hh.1), if_neg h35, if_pos h]
theorem noth_hash (r : List UInt8) : nothB (35 :: r) = decide (lineN (35 :: r) = r.length + 1) := by
  cases r with
  | nil => simp [nothB, lineN]
  | cons d r => rw [nothB.eq_def]; simp
theorem noth_join (r : List UInt8) : nothB (92 :: 10 :: r) = nothB r := by rw [nothB.eq_def]; simp
theorem noth_no {c : UInt8} {r : List UInt8} (h1 : ¬ (c = 92 ∧ r.headD 0 = 10)) (h2 : c ≠ 35) (h3 : ¬ (c = 32 ∨ c = 9)) : nothB (c :: r) = false := by
  cases r with
  | nil => simp [nothB, h2, h3]
  | cons d r => rw [List.headD_cons] at h1; rw [nothB.eq_def]; simp only; rw [if_neg h1, if_neg h2, if_neg h3]
theorem lineN_take (x : List UInt8) : lineN (x.take (lineN x)) = lineN x := by
  induction x with
  | nil => rfl
  | cons c r ih =>
    by_cases h : c = 10
    · subst h; simp [lineN]
    · have e : lineN (c :: r) = lineN r + 1 := by rw [lineN.eq_def]; simp [h]
      rw [e, List.take_succ_cons]
      rw [lineN.eq_def]; simp [h, ih]
theorem noth_skip (x : List UInt8) : nothB (x.take (skip x)) = true := by
  obtain ⟨m, hm⟩ : ∃ m, x.length = m := ⟨_, rfl⟩
  induction m using Nat.strongRecOn generalizing x with
  | _ m ih =>
    match x, hm with
    | [], _ => simp [nothB]
    | c :: r, hm =>
      by_cases h1 : c = 32 ∨ c = 9
      · rw [skip_blank r h1, List.take_succ_cons, noth_one c h1]
        exact ih r.length (by simp at hm; omega) r rfl
      · by_cases h2 : c = 35
        · subst h2
          rw [skip_hash]
          have e : lineN (35 :: r) = lineN r + 1 := by rw [lineN.eq_def]; simp
          have ht := lineN_take (35 :: r)
          rw [e, List.take_succ_cons] at ht ⊢
          rw [noth_hash, ht, List.length_take]
          have := lineN_le r
          simp
          omega
        · by_cases h3 : c = 92 ∧ r.headD 0 = 10
          · obtain ⟨rfl, h3⟩ := h3
            cases r with
            | nil => exact absurd h3 (by decide)
            | cons d r =>
              simp only [List.headD_cons] at h3
              subst h3
              rw [skip_join, List.take_succ_cons, List.take_succ_cons, noth_join]
              exact ih r.length (by simp at hm; omega) r rfl
          · rw [skip_none r h1 h2 h3, List.take_zero]; rfl
/-- Where the things of a row end. -/
def endP (k : Nat) : List Tk → Nat
  | [] => k
  | t :: r => endP t.2.2 r
theorem endP_snoc (k : Nat) (l : List Tk) (t : Tk) : endP k (l ++ [t]) = t.2.2 := by
  induction l generalizing k with
  | nil => rfl
  | cons a l ih => exact ih _
theorem seqF_at {l : List UInt8} {n k : Nat} {pre rest : List Tk} {x : Tk} (hk : k ≤ l.length) (h : seqF n l k = pre ++ x :: rest) (hp : ∀ t ∈ pre, t.1 ≠ 5) : x = nextP l (endP k pre) ∧ endP k pre ≤ l.length ∧ x.1 ≠ 0 := by
  induction n generalizing k pre with
  | zero => simp [seqF] at h
  | succ n ih =>
    unfold seqF at h
    have hle := nextP_le l k hk
    by_cases h5 : (nextP l k).1 = 5
    · rw [if_pos h5] at h
      cases pre with
      | nil => injection h with e _; exact ⟨e.symm, hk, by rw [← e, h5]; decide⟩
      | cons a pre =>
        injection h with e _
        exact absurd (e ▸ h5) (hp a (by simp))
    · rw [if_neg h5] at h
      by_cases h0 : (nextP l k).1 = 0
      · rw [if_pos h0] at h; simp at h
      · rw [if_neg h0] at h
        cases pre with
        | nil => injection h with e _; exact ⟨e.symm, hk, by rw [← e]; exact h0⟩
        | cons a pre =>
          injection h with e e2
          have := ih (k := (nextP l k).2.2) hle.2.2.1 e2 (fun t ht => hp t (by simp [ht]))
          unfold endP
          rw [← e]
          exact this
theorem seqF_last {l : List UInt8} {n k : Nat} {pre : List Tk} (hk : k ≤ l.length) (hn : l.length - k < n) (h : seqF n l k = pre) (hp : ∀ t ∈ pre, t.1 ≠ 5) : (nextP l (endP k pre)).1 = 0 ∧ endP k pre ≤ l.length := by
  induction n generalizing k pre with
  | zero => omega
  | succ n ih =>
    unfold seqF at h
    have hle := nextP_le l k hk
    by_cases h5 : (nextP l k).1 = 5
    · rw [if_pos h5] at h
      subst h
      exact absurd h5 (hp _ (by simp))
    · rw [if_neg h5] at h
      by_cases h0 : (nextP l k).1 = 0
      · rw [if_pos h0] at h; subst h; exact ⟨h0, hk⟩
      · rw [if_neg h0] at h
        have hpos := hle.2.2.2.1 h0 h5
        subst h
        exact ih (k := (nextP l k).2.2) hle.2.2.1 (by omega) rfl (fun t ht => hp t (by simp [ht]))
/-- A thing's place: what stands ahead of it. -/
theorem nextP_at (l : List UInt8) (k : Nat) : (nextP l k).2.1 = k + skip (l.drop k) := by
  unfold nextP
  dsimp only
  split
  · rfl
  · split
    · rfl
    · split
      · rfl
      · split <;> rfl
theorem nextP_zero {l : List UInt8} {k : Nat} (hk : k ≤ l.length) (h : (nextP l k).1 = 0) : k + skip (l.drop k) = l.length := by
  have hb1 : k + skip (l.drop k) ≤ l.length := by have := skip_le (l.drop k); rw [List.length_drop] at this; omega
  unfold nextP at h
  dsimp only at h
  split at h
  · rename_i he
    have := List.drop_eq_nil_iff.1 he
    omega
  · split at h
    · cases h
    · split at h
      · cases h
      · split at h
        · cases h
        · exfalso
          simp only at h
          split at h <;> cases h
theorem nextP_five {l : List UInt8} {k : Nat} (hk : k ≤ l.length) (h : (nextP l k).1 = 5) : k + skip (l.drop k) < l.length := by
  have hb1 : k + skip (l.drop k) ≤ l.length := by have := skip_le (l.drop k); rw [List.length_drop] at this; omega
  by_cases he : k + skip (l.drop k) = l.length
  · exfalso
    unfold nextP at h
    rw [he] at h
    dsimp only at h
    rw [List.drop_of_length_le (Nat.le_refl _)] at h
    simp at h
  · omega
end Go.Proofs.YtjeleebgifajkaaDoor
