/-
  Things, one behind the other: how far each goes, the row of all. Conditions: none.
-/
import Derived.Test.YtjeleebgifajkaaDoorLxNext2
set_option linter.unusedSimpArgs false
set_option linter.unusedVariables false
namespace Go.Proofs.YtjeleebgifajkaaDoor
open Go

theorem skip_stop (x : List UInt8) : skip (x.drop (skip x)) = 0 := by
  obtain ⟨m, hm⟩ : ∃ m, x.length = m := ⟨_, rfl⟩
  induction m using Nat.strongRecOn generalizing x with
  | _ m ih =>
    match x, hm with
    | [], _ => simp [skip_nil]
    | c :: r, hm =>
      by_cases h1 : c = 32 ∨ c = 9
      · rw [skip_blank r h1, List.drop_succ_cons]
        exact ih r.length (by simp at hm; omega) r rfl
      · by_cases h2 : c = 35
        · subst h2; rw [skip_hash]; exact skip_line _
        · by_cases h3 : c = 92 ∧ r.headD 0 = 10
          · obtain ⟨rfl, h3⟩ := h3
            cases r with
            | nil => exact absurd h3 (by decide)
            | cons d r =>
              simp only [List.headD_cons] at h3
              subst h3
              rw [skip_join]
              exact ih r.length (by simp at hm; omega) r rfl
          · rw [skip_none r h1 h2 h3, List.drop_zero, skip_none r h1 h2 h3]
theorem skip_head {c : UInt8} {r : List UInt8} (h : skip (c :: r) = 0) : c ≠ 32 ∧ c ≠ 9 ∧ c ≠ 35 ∧ ¬ (c = 92 ∧ r.headD 0 = 10) := by
  refine ⟨?_, ?_, ?_, ?_⟩
  · rintro rfl; rw [skip_blank r (.inl rfl)] at h; omega
  · rintro rfl; rw [skip_blank r (.inr rfl)] at h; omega
  · rintro rfl; rw [skip_hash] at h; simp [lineN] at h
  · rintro ⟨rfl, h2⟩
    cases r with
    | nil => exact absurd h2 (by decide)
    | cons d r => simp only [List.headD_cons] at h2; subst h2; rw [skip_join] at h; omega
theorem op_head {c : UInt8} {r : List UInt8} (h : opN (c :: r) = 0) : ops1.contains [c] = false := by
  unfold opN at h
  split at h
  · omega
  · split at h
    · omega
    · split at h
      · omega
      · rename_i h1
        rw [show (c :: r).take 1 = [c] by simp] at h1
        simpa using h1
theorem ends_of {c : UInt8} (h1 : c ≠ 32) (h2 : c ≠ 9) (h3 : c ≠ 10) (h4 : ops1.contains [c] = false) : endsB c = false := by
  have : ¬ (c = 38 ∨ c = 124 ∨ c = 59 ∨ c = 60 ∨ c = 62 ∨ c = 40 ∨ c = 41) := by
    intro h
    rw [← Bool.not_eq_true, List.contains_iff_mem] at h4
    apply h4
    rcases h with rfl | rfl | rfl | rfl | rfl | rfl | rfl <;> simp [ops1]
  simp only [not_or] at this
  simp [endsB, h1, h2, h3, this]

abbrev Tk := Nat × Nat × Nat
/-- The place of what begins, how long it is. -/
theorem nextP_le (l : List UInt8) (k : Nat) (hk : k ≤ l.length) : k ≤ (nextP l k).2.1 ∧ (nextP l k).2.1 ≤ (nextP l k).2.2 ∧ (nextP l k).2.2 ≤ l.length ∧ ((nextP l k).1 ≠ 0 → (nextP l k).1 ≠ 5 → (nextP l k).2.1 < (nextP l k).2.2) ∧ (nextP l k).1 ≤ 5 := by
  unfold nextP
  have hb1 : k + skip (l.drop k) ≤ l.length := by have := skip_le (l.drop k); rw [List.length_drop] at this; omega
  have hst := skip_stop (l.drop k)
  rw [List.drop_drop] at hst
  generalize hb : k + skip (l.drop k) = b at hb1 hst
  have hkb : k ≤ b := by omega
  dsimp only
  split
  · exact ⟨hkb, Nat.le_refl _, hb1, fun h => absurd rfl h, by simp⟩
  · rename_i hne
    obtain ⟨c, r, hx⟩ := List.exists_cons_of_ne_nil hne
    have hlen := congrArg List.length hx
    rw [List.length_drop, List.length_cons] at hlen
    rw [hx] at hst ⊢
    obtain ⟨n1, n2, n3, n4⟩ := skip_head hst
    split
    · exact ⟨hkb, by simp, by simp; omega, fun _ _ => by simp, by simp⟩
    · rename_i h10
      simp only [List.headD_cons] at h10
      split
      · rename_i h0
        have := (opN_le (c :: r)).1
        rw [List.length_cons] at this
        exact ⟨hkb, by simp, by simp; omega, fun _ _ => by simp; omega, by simp⟩
      · rename_i h0
        simp only [ne_eq, Decidable.not_not] at h0
        have hen := ends_of n1 n2 h10 (op_head h0)
        split
        · exact ⟨hkb, Nat.le_refl _, hb1, fun _ h => absurd rfl h, by simp⟩
        · rename_i n hs
          have hle := scan_le hs
          rw [List.length_cons] at hle
          have hpos : 0 < n := by
            rw [scan_word, if_neg (by rw [hen]; decide)] at hs
            cases hp : partP 119 (c :: r) with
            | none => rw [hp] at hs; cases hs
            | some j =>
              rw [hp] at hs
              simp only [Option.bind_some, Option.map_eq_some_iff] at hs
              obtain ⟨i, _, rfl⟩ := hs
              have := partP_pos hp
              omega
          refine ⟨hkb, by simp, by simp; omega, fun _ _ => by simp; omega, ?_⟩
          simp only
          split <;> omega

/-- All things from a place on; what does not end is the last. -/
def seqF : Nat → List UInt8 → Nat → List Tk
  | 0, _, _ => []
  | n + 1, l, k => if (nextP l k).1 = 5 then [nextP l k] else if (nextP l k).1 = 0 then [] else nextP l k :: seqF n l (nextP l k).2.2
def seqL (s : ByteArray) : List Tk := seqF (s.size + 1) (bl s) 0
def cellTk (s : ByteArray) (t : Tk) : List Value := [.int .i64 (t.1 : Int), .string (s.extract t.2.1 t.2.2), .int .i64 (t.2.1 : Int), .int .i64 (t.2.2 : Int)]
def cellsTk (s : ByteArray) (l : List Tk) : List Value := l.flatMap (cellTk s)
theorem cellsTk_len (s : ByteArray) (l : List Tk) : (cellsTk s l).length = l.length * 4 := by
  induction l with
  | nil => rfl
  | cons a l ih => simp only [cellsTk, List.flatMap_cons, List.length_append, cellTk, List.length_cons, List.length_nil] at ih ⊢; omega
theorem cellsTk_app (s : ByteArray) (l m : List Tk) : cellsTk s (l ++ m) = cellsTk s l ++ cellsTk s m := by simp [cellsTk]
theorem cellsTk_one (s : ByteArray) (t : Tk) : cellsTk s [t] = cellTk s t := by simp [cellsTk]
/-- What All answers: the things ahead, the place and the error. -/
def allP (s : ByteArray) : List Tk × Int × Int := if 4096 < s.size then ([], 0, 21) else match (seqL s).find? (fun t => t.1 == 5) with
  | none => (seqL s, 0, 0)
  | some t => ((seqL s).filter (fun t => t.1 != 5), (t.2.1 : Int), 30)
theorem all_ok {s : ByteArray} {pre : List Tk} (hs : s.size ≤ 4096) (h : seqL s = pre) (hp : ∀ t ∈ pre, t.1 ≠ 5) : allP s = (pre, 0, 0) := by
  unfold allP
  rw [if_neg (by omega), h]
  have : pre.find? (fun t => t.1 == 5) = none := by
    rw [List.find?_eq_none]
    intro t ht
    simpa using hp t ht
  rw [this]
theorem all_err {s : ByteArray} {pre rest : List Tk} {t : Tk} (hs : s.size ≤ 4096) (h : seqL s = pre ++ [t] ++ rest) (hp : ∀ t ∈ pre, t.1 ≠ 5) (ht : t.1 = 5) (hr : rest = []) : allP s = (pre, (t.2.1 : Int), 30) := by
  subst hr
  rw [List.append_nil] at h
  unfold allP
  rw [if_neg (by omega), h]
  have h1 : (pre ++ [t]).find? (fun t => t.1 == 5) = some t := by
    rw [List.find?_append]
    have : pre.find? (fun t => t.1 == 5) = none := by
      rw [List.find?_eq_none]
      intro t ht
      simpa using hp t ht
    rw [this]; simp [ht]
  have h2 : (pre ++ [t]).filter (fun t => t.1 != 5) = pre := by
    rw [List.filter_append]
    have : pre.filter (fun t => t.1 != 5) = pre := by
      rw [List.filter_eq_self]
      intro t ht
      simpa using hp t ht
    rw [this]; simp [ht]
  rw [h1, h2]
end Go.Proofs.YtjeleebgifajkaaDoor
