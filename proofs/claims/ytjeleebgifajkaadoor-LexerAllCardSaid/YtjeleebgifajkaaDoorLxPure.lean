/-
  What the things of a text are, told plainly: a text is the row of its bytes from a place on. Conditions: none.
-/
import Derived.Test.YtjeleebgifajkaaDoorMkWords
set_option linter.unusedSimpArgs false
set_option linter.unusedVariables false
namespace Go.Proofs.YtjeleebgifajkaaDoor
open Go

/-- The bytes that end a word. -/
def endsB (c : UInt8) : Bool := c == 32 || c == 9 || c == 10 || c == 38 || c == 124 || c == 59 || c == 60 || c == 62 || c == 40 || c == 41
def ops2 : List (List UInt8) := [[38, 38], [124, 124], [59, 59], [60, 60], [60, 38], [60, 62], [62, 62], [62, 38], [62, 124]]
def ops1 : List (List UInt8) := [[38], [124], [59], [60], [62], [40], [41]]
/-- How long the longest op is with which a row begins. -/
def opN (x : List UInt8) : Nat := if x.take 3 = [60, 60, 45] then 3 else if ops2.contains (x.take 2) then 2 else if ops1.contains (x.take 1) then 1 else 0

/-- One step in what t opened: how many bytes, and in what one is behind them, in the place of t. -/
def stp (x : List UInt8) (t : UInt8) : Option (Nat × List UInt8) :=
  match x with
  | [] => none
  | c :: r =>
    if t = 39 then some (1, if c = 39 then [] else [t])
    else if c = 92 then (if r = [] then none else some (2, [t]))
    else if t = 96 ∨ (t = 34 ∧ c = 34) then some (1, if c = t then [] else [t])
    else if c = 36 ∧ (r.headD 0 = 40 ∨ r.headD 0 = 123) then some (2, [r.headD 0, t])
    else if c = 96 ∨ (t ≠ 34 ∧ (c = 39 ∨ c = 34)) ∨ (t = 40 ∧ c = 40) then some (1, [c, t])
    else some (1, if (t = 40 ∧ c = 41) ∨ (t = 123 ∧ c = 125) then [] else [t])

def scanF : Nat → List UInt8 → List UInt8 → Option Nat
  | _, _, [] => some 0
  | 0, x, t :: st => if x = [] ∧ t = 119 ∧ st = [] then some 0 else none
  | n + 1, x, t :: st =>
    if x = [] then (if t = 119 ∧ st = [] then some 0 else none)
    else if t = 119 ∧ endsB (x.headD 0) = true then some 0
    else match stp x t with
      | none => none
      | some (k, ts) => (scanF n (x.drop k) (ts ++ st)).map (· + k)
/-- How many bytes there are up to where all that is open is closed. -/
def scan (x st : List UInt8) : Option Nat := scanF x.length x st

theorem stp_pos {x : List UInt8} {t : UInt8} {k : Nat} {ts : List UInt8} (h : stp x t = some (k, ts)) : 0 < k ∧ k ≤ x.length := by
  unfold stp at h
  split at h
  · cases h
  · rename_i c r
    split at h
    · cases h; simp
    · split at h
      · split at h
        · cases h
        · rename_i hr
          cases h
          cases r with
          | nil => exact absurd rfl hr
          | cons d r => simp
      · split at h
        · cases h; simp
        · split at h
          · rename_i hc
            cases h
            cases r with
            | nil => simp at hc
            | cons d r => simp
          · split at h <;> cases h <;> simp
/-- What is open behind a step, ahead of what was open. -/
theorem stp_top {x : List UInt8} {t : UInt8} {k : Nat} {ts : List UInt8} (h : stp x t = some (k, ts)) : ts = [] ∧ t ≠ 119 ∨ ts = [t] ∨ ∃ c, ts = [c, t] ∧ c ≠ 119 := by
  unfold stp at h
  split at h
  · cases h
  · rename_i c r
    split at h
    · rename_i ht
      subst ht
      cases h
      split
      · exact .inl ⟨rfl, by decide⟩
      · exact .inr (.inl rfl)
    · split at h
      · split at h
        · cases h
        · cases h; exact .inr (.inl rfl)
      · split at h
        · rename_i ht
          cases h
          split
          · refine .inl ⟨rfl, ?_⟩
            rcases ht with rfl | ⟨rfl, _⟩ <;> decide
          · exact .inr (.inl rfl)
        · split at h
          · rename_i hc
            cases h
            refine .inr (.inr ⟨_, rfl, ?_⟩)
            rcases hc.2 with e | e <;> rw [e] <;> decide
          · split at h
            · rename_i hc
              cases h
              refine .inr (.inr ⟨_, rfl, ?_⟩)
              rcases hc with rfl | ⟨_, rfl | rfl⟩ | ⟨_, rfl⟩ <;> decide
            · cases h
              split
              · rename_i ht
                refine .inl ⟨rfl, ?_⟩
                rcases ht with ⟨rfl, _⟩ | ⟨rfl, _⟩ <;> decide
              · exact .inr (.inl rfl)

theorem scanF_more (n : Nat) (x st : List UInt8) (h : x.length ≤ n) : scanF n x st = scanF x.length x st := by
  obtain ⟨m, hm⟩ : ∃ m, x.length = m := ⟨_, rfl⟩
  rw [hm]
  induction n using Nat.strongRecOn generalizing x st m with
  | _ n ih =>
    cases st with
    | nil => cases n <;> cases m <;> rfl
    | cons t st =>
      cases x with
      | nil =>
        obtain rfl : m = 0 := by simpa using hm.symm
        cases n <;> simp [scanF]
      | cons c r =>
        obtain ⟨m, rfl⟩ : ∃ k, m = k + 1 := ⟨r.length, by simpa using hm.symm⟩
        obtain ⟨n, rfl⟩ : ∃ k, n = k + 1 := ⟨n - 1, by simp at h; omega⟩
        simp only [scanF, reduceCtorEq, if_false]
        split
        · rfl
        · cases hs : stp (c :: r) t with
          | none => rfl
          | some q =>
            obtain ⟨k, ts⟩ := q
            have hk := stp_pos hs
            have hl : ((c :: r).drop k).length = m + 1 - k := by simp at hm ⊢; omega
            simp only
            rw [ih n (by omega) _ _ (by rw [hl]; simp at hm h; omega) _ hl]
            by_cases hn : m < n + 1
            · rw [ih m (by omega) _ _ (by rw [hl]; omega) _ hl]
            · have : n + 1 = m + 1 := by simp at hm h; omega
              obtain rfl : n = m := by omega
              rw [ih n (by omega) _ _ (by rw [hl]; omega) _ hl]
theorem scan_nil (x : List UInt8) : scan x [] = some 0 := by unfold scan; cases x.length <;> rfl
theorem scan_end (t : UInt8) (st : List UInt8) : scan [] (t :: st) = if t = 119 ∧ st = [] then some 0 else none := by simp [scan, scanF]
theorem scan_cons {x : List UInt8} (hx : x ≠ []) (t : UInt8) (st : List UInt8) : scan x (t :: st) = if t = 119 ∧ endsB (x.headD 0) = true then some 0
    else match stp x t with
      | none => none
      | some (k, ts) => (scan (x.drop k) (ts ++ st)).map (· + k) := by
  unfold scan
  obtain ⟨n, hn⟩ : ∃ n, x.length = n + 1 := ⟨x.length - 1, by have := List.length_pos_iff.2 hx; omega⟩
  rw [hn]
  simp only [scanF, hx, if_false]
  split
  · rfl
  · cases hs : stp x t with
    | none => rfl
    | some q =>
      obtain ⟨k, ts⟩ := q
      have hk := stp_pos hs
      simp only
      rw [scanF_more n (x.drop k) _ (by simp; omega)]

theorem scan_le {x st : List UInt8} {n : Nat} (h : scan x st = some n) : n ≤ x.length := by
  obtain ⟨m, hm⟩ : ∃ m, x.length = m := ⟨_, rfl⟩
  induction m using Nat.strongRecOn generalizing x st n with
  | _ m ih =>
    cases st with
    | nil => rw [scan_nil] at h; cases h; omega
    | cons t st =>
      by_cases hx : x = []
      · subst hx; rw [scan_end] at h; split at h <;> cases h; omega
      · rw [scan_cons hx] at h
        split at h
        · cases h; omega
        · split at h
          · cases h
          · rename_i k ts hs
            have hk := stp_pos hs
            rw [Option.map_eq_some_iff] at h
            obtain ⟨j, hj, rfl⟩ := h
            have := ih (x.drop k).length (by simp; omega) hj rfl
            simp at this
            omega
/-- What is closed first is closed ahead of what was open before. -/
theorem scan_app {us : List UInt8} (h119 : ∀ u ∈ us, u ≠ 119) (x st : List UInt8) : scan x (us ++ st) = (scan x us).bind fun n => (scan (x.drop n) st).map (· + n) := by
  obtain ⟨m, hm⟩ : ∃ m, x.length = m := ⟨_, rfl⟩
  induction m using Nat.strongRecOn generalizing x us with
  | _ m ih =>
    cases us with
    | nil => rw [scan_nil]; simp
    | cons t us =>
      have ht : t ≠ 119 := h119 t (by simp)
      by_cases hx : x = []
      · subst hx; simp [scan_end, ht]
      · rw [List.cons_append, scan_cons hx, scan_cons hx]
        simp only [ht, false_and, if_false]
        cases hs : stp x t with
        | none => rfl
        | some q =>
          obtain ⟨k, ts⟩ := q
          have hk := stp_pos hs
          simp only
          have hts : ∀ u ∈ ts ++ us, u ≠ 119 := by
            intro u hu
            rcases List.mem_append.1 hu with hu | hu
            · rcases stp_top hs with ⟨rfl, _⟩ | rfl | ⟨c, rfl, hc⟩
              · cases hu
              · simp at hu; subst hu; exact ht
              · simp at hu; rcases hu with rfl | rfl
                · exact hc
                · exact ht
            · exact h119 u (by simp [hu])
          rw [← List.append_assoc, ih (x.drop k).length (by simp; omega) hts _ rfl]
          cases scan (x.drop k) (ts ++ us) with
          | none => rfl
          | some n =>
            simp only [Option.bind_some, Option.map_some, Option.map_map, List.drop_drop]
            rw [Nat.add_comm n k]
            congr 1
            funext j
            simp only [Function.comp]
            omega

/-- What counts as a whole, where t is open and is not closed here. -/
def partP (t : UInt8) (x : List UInt8) : Option Nat :=
  match stp x t with
  | none => none
  | some (k, ts) => (scan (x.drop k) ts.dropLast).map (· + k)
/-- The byte that closes what t opened. -/
def closeB (t : UInt8) : UInt8 := if t = 40 then 41 else if t = 123 then 125 else t
theorem stp_close {t c : UInt8} {r : List UInt8} (ht : t = 39 ∨ t = 34 ∨ t = 96 ∨ t = 40 ∨ t = 123) (h : c = closeB t) : stp (c :: r) t = some (1, []) := by
  subst h
  rcases ht with rfl | rfl | rfl | rfl | rfl <;> simp [stp, closeB]
theorem stp_open {t c : UInt8} {r : List UInt8} {k : Nat} {ts : List UInt8} (ht : t = 39 ∨ t = 34 ∨ t = 96 ∨ t = 40 ∨ t = 123 ∨ t = 119) (h : c ≠ closeB t) (hs : stp (c :: r) t = some (k, ts)) : ts = ts.dropLast ++ [t] ∧ ∀ u ∈ ts.dropLast, u ≠ 119 := by
  have hne : ts ≠ [] := by
    rintro rfl
    rcases ht with rfl | rfl | rfl | rfl | rfl | rfl <;> simp only [stp, closeB] at h hs <;> (repeat' split at hs) <;> simp_all
  rcases stp_top hs with ⟨e, _⟩ | rfl | ⟨d, rfl, hd⟩
  · exact absurd e hne
  · simp
  · simpa using hd
/-- A loop's step: what is closed by t is closed here, or behind what counts as a whole. -/
theorem scan_step {t c : UInt8} {r : List UInt8} (ht : t = 39 ∨ t = 34 ∨ t = 96 ∨ t = 40 ∨ t = 123) :
    scan (c :: r) [t] = if c = closeB t then some 1 else (partP t (c :: r)).bind fun n => (scan ((c :: r).drop n) [t]).map (· + n) := by
  have ht9 : t ≠ 119 := by rcases ht with rfl | rfl | rfl | rfl | rfl <;> decide
  rw [scan_cons (by simp)]
  simp only [ht9, false_and, if_false]
  by_cases h : c = closeB t
  · rw [stp_close ht h, if_pos h]
    simp [scan_nil]
  · rw [if_neg h]
    unfold partP
    cases hs : stp (c :: r) t with
    | none => rfl
    | some q =>
      obtain ⟨k, ts⟩ := q
      obtain ⟨e, h9⟩ := stp_open (by rcases ht with h | h | h | h | h <;> simp [h]) h hs
      simp only [List.append_nil]
      rw [e, scan_app h9, List.dropLast_concat]
      cases scan ((c :: r).drop k) ts.dropLast with
      | none => rfl
      | some n =>
        simp only [Option.bind_some, Option.map_some, Option.map_map, List.drop_drop]
        rw [Nat.add_comm n k]
        congr 1
        funext j
        simp only [Function.comp]
        omega
/-- The same for a word. -/
theorem scan_word {c : UInt8} {r : List UInt8} : scan (c :: r) [119] = if endsB c = true then some 0 else (partP 119 (c :: r)).bind fun n => (scan ((c :: r).drop n) [119]).map (· + n) := by
  rw [scan_cons (by simp)]
  simp only [true_and, List.headD_cons]
  split
  · rfl
  · rename_i h
    unfold partP
    cases hs : stp (c :: r) 119 with
    | none => rfl
    | some q =>
      obtain ⟨k, ts⟩ := q
      have hne : c ≠ closeB 119 ∨ c = 119 := by by_cases h : c = 119 <;> simp [h, closeB]
      have ⟨e, h9⟩ : ts = ts.dropLast ++ [119] ∧ ∀ u ∈ ts.dropLast, u ≠ 119 := by
        rcases stp_top hs with ⟨_, e⟩ | rfl | ⟨d, rfl, hd⟩
        · exact absurd rfl e
        · simp
        · simpa using hd
      simp only [List.append_nil]
      rw [e, scan_app h9, List.dropLast_concat]
      cases scan ((c :: r).drop k) ts.dropLast with
      | none => rfl
      | some n =>
        simp only [Option.bind_some, Option.map_some, Option.map_map, List.drop_drop]
        rw [Nat.add_comm n k]
        congr 1
        funext j
        simp only [Function.comp]
        omega
end Go.Proofs.YtjeleebgifajkaaDoor
