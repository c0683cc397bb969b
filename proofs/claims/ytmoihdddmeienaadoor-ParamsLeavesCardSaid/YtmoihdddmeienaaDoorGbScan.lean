/-
  Groups and patterns in plain words: what is behind a [, thing by thing; that a group which comes by a passed place ends as little. No program in it.
-/
import Derived.Test.YtmoihdddmeienaaDoorGbThing2
namespace Go.Proofs.YtmoihdddmeienaaDoor
open Go Go.RowKit

/-- The things from k on, up to the first bare ] behind one: the ranges, and the place behind the ]. (fuel) -/
def scanF (path : Bool) (l : List Ch) : Nat → Nat → Option (List Rg × Nat)
  | 0, _ => none
  | f + 1, k =>
    if l.length ≤ k then none
    else if (thingP path l k).2 = 0 then none
    else if bareAt l (k + (thingP path l k).2) 93 then some ((thingP path l k).1, k + (thingP path l k).2 + 1)
    else (scanF path l f (k + (thingP path l k).2)).map fun r => ((thingP path l k).1 ++ r.1, r.2)
def scan (path : Bool) (l : List Ch) (k : Nat) : Option (List Rg × Nat) := scanF path l (l.length + 1 - k) k
theorem scanF_fuel (path : Bool) (l : List Ch) (f g k : Nat) (hf : l.length + 1 ≤ f + k) (hg : l.length + 1 ≤ g + k) : scanF path l f k = scanF path l g k := by
  induction f generalizing g k with
  | zero =>
    cases g with
    | zero => rfl
    | succ g => simp only [scanF]; rw [if_pos (by omega)]
  | succ f ih =>
    cases g with
    | zero => simp only [scanF]; rw [if_pos (by omega)]
    | succ g =>
      simp only [scanF]
      by_cases h0 : (thingP path l k).2 = 0
      · simp [h0]
      · rw [ih g (k + (thingP path l k).2) (by omega) (by omega)]
theorem scan_far {path : Bool} {l : List Ch} {k : Nat} (h : l.length ≤ k) : scan path l k = none := by
  unfold scan
  cases l.length + 1 - k with
  | zero => rfl
  | succ f => simp only [scanF]; rw [if_pos h]
theorem scan_eq {path : Bool} {l : List Ch} {k : Nat} (h : k < l.length) : scan path l k =
    if (thingP path l k).2 = 0 then none
    else if bareAt l (k + (thingP path l k).2) 93 then some ((thingP path l k).1, k + (thingP path l k).2 + 1)
    else (scan path l (k + (thingP path l k).2)).map fun r => ((thingP path l k).1 ++ r.1, r.2) := by
  unfold scan
  obtain ⟨f, hf⟩ : ∃ f, l.length + 1 - k = f + 1 := ⟨l.length - k, by omega⟩
  rw [hf]
  simp only [scanF]
  rw [if_neg (by omega)]
  by_cases h0 : (thingP path l k).2 = 0
  · rw [if_pos h0, if_pos h0]
  · rw [scanF_fuel path l f (l.length + 1 - (k + (thingP path l k).2)) _ (by omega) (by omega)]
theorem scan_le {path : Bool} {l : List Ch} {k : Nat} {r : List Rg × Nat} (h : scan path l k = some r) : k < r.2 ∧ r.2 ≤ l.length := by
  obtain ⟨n, hn⟩ : ∃ n, l.length - k ≤ n := ⟨_, Nat.le_refl _⟩
  induction n generalizing k r with
  | zero => rw [scan_far (by omega)] at h; cases h
  | succ n ih =>
    rcases Nat.lt_or_ge k l.length with hk | hk
    · rw [scan_eq hk] at h
      split at h
      · cases h
      · rename_i h0
        split at h
        · rename_i hb
          injection h with h
          subst h
          have := bareAt_lt hb
          simp only
          omega
        · simp only [Option.map_eq_some_iff] at h
          obtain ⟨r', hr, rfl⟩ := h
          have := ih hr (by omega)
          simp only
          omega
    · rw [scan_far hk] at h; cases h

/-- The group behind a [: its item, and of how many bytes it is told (without the [). -/
def groupP (path : Bool) (l : List Ch) (i : Nat) : Option (It × Nat) :=
  (scan path l (if bareAt l i 33 then i + 1 else i)).map fun r => ((4, 0, bareAt l i 33, r.1), r.2 - i)
/-- The item at a place, and of how many bytes it is told. -/
def itemP (path : Bool) (l : List Ch) (k : Nat) : It × Nat :=
  if bareAt l k 63 then ((2, 0, false, []), 1)
  else if bareAt l k 42 then ((3, 0, false, []), 1)
  else if bareAt l k 92 && decide (k + 1 < l.length) then ((1, byteAt l (k + 1), false, []), 2)
  else if bareAt l k 91 then (match groupP path l (k + 1) with | some r => (r.1, r.2 + 1) | none => ((1, byteAt l k, false, []), 1))
  else ((1, byteAt l k, false, []), 1)
theorem groupP_pos {path : Bool} {l : List Ch} {i : Nat} {r : It × Nat} (h : groupP path l i = some r) : 1 ≤ r.2 ∧ i + r.2 ≤ l.length := by
  unfold groupP at h
  simp only [Option.map_eq_some_iff] at h
  obtain ⟨s, hs, rfl⟩ := h
  have := scan_le hs
  simp only
  split at this <;> omega
theorem itemP_pos {path : Bool} {l : List Ch} {k : Nat} (h : k < l.length) : 1 ≤ (itemP path l k).2 ∧ k + (itemP path l k).2 ≤ l.length := by
  unfold itemP
  split
  · simp only; omega
  · split
    · simp only; omega
    · split
      · rename_i hc
        simp only [Bool.and_eq_true, decide_eq_true_eq] at hc
        simp only; omega
      · split
        · cases hg : groupP path l (k + 1) with
          | none => simp only; omega
          | some r => have := groupP_pos hg; simp only; omega
        · simp only; omega
/-- A pattern from k on, behind the items so far. (fuel) -/
def compF (path : Bool) (l : List Ch) : Nat → Nat → List It → List It
  | 0, _, out => out
  | f + 1, k, out =>
    if l.length ≤ k then out
    else compF path l f (k + (itemP path l k).2) (if isStar (itemP path l k).1 && (match out.getLast? with | some x => isStar x | none => false) then out else out ++ [(itemP path l k).1])
/-- The pattern that a marked text is. -/
def compileP (path : Bool) (l : List Ch) : List It := compF path l (l.length + 1) 0 []
def lastStar (out : List It) : Bool := match out.getLast? with | some x => isStar x | none => false
def stepOut (x : It) (out : List It) : List It := if isStar x && lastStar out then out else out ++ [x]
theorem compF_fuel (path : Bool) (l : List Ch) (f g k : Nat) (out : List It) (hf : l.length + 1 ≤ f + k) (hg : l.length + 1 ≤ g + k) : compF path l f k out = compF path l g k out := by
  induction f generalizing g k out with
  | zero =>
    cases g with
    | zero => rfl
    | succ g => simp only [compF]; rw [if_pos (by omega)]
  | succ f ih =>
    cases g with
    | zero => simp only [compF]; rw [if_pos (by omega)]
    | succ g =>
      simp only [compF]
      by_cases h : l.length ≤ k
      · rw [if_pos h, if_pos h]
      · rw [if_neg h, if_neg h]
        have := itemP_pos (path := path) (l := l) (k := k) (by omega)
        exact ih g _ _ (by omega) (by omega)
def compK (path : Bool) (l : List Ch) (k : Nat) (out : List It) : List It := compF path l (l.length + 1 - k) k out
theorem compK_end {path : Bool} {l : List Ch} {k : Nat} {out : List It} (h : l.length ≤ k) : compK path l k out = out := by
  unfold compK
  cases l.length + 1 - k with
  | zero => rfl
  | succ f => simp only [compF]; rw [if_pos h]
theorem compK_step {path : Bool} {l : List Ch} {k : Nat} {out : List It} (h : k < l.length) : compK path l k out = compK path l (k + (itemP path l k).2) (stepOut (itemP path l k).1 out) := by
  unfold compK
  obtain ⟨f, hf⟩ : ∃ f, l.length + 1 - k = f + 1 := ⟨l.length - k, by omega⟩
  rw [hf]
  simp only [compF]
  rw [if_neg (by omega)]
  have := itemP_pos (path := path) (l := l) (k := k) h
  exact compF_fuel path l f _ _ _ (by omega) (by omega)
theorem compile_compK (path : Bool) (l : List Ch) : compileP path l = compK path l 0 [] := rfl

/-- What is known of the places that were passed: no group that comes by one of them from k on ends. -/
def Pin (path : Bool) (l : List Ch) (ps : List Bool) (k : Nat) : Prop := ∀ j, ps[j]? = some true → j < k ∨ scan path l j = none
theorem Pin.mono {path : Bool} {l : List Ch} {ps : List Bool} {k k' : Nat} (h : Pin path l ps k) (hk : k ≤ k') : Pin path l ps k' := fun j hj => (h j hj).imp (fun h => by omega) id
/-- A group does not end here. -/
def Fb (l : List Ch) (k : Nat) (f : Bool) : Prop := f = true ∨ bareAt l k 93 = false
/-- The same within a group that began at or behind k0 and stands at k. -/
def Pmid (path : Bool) (l : List Ch) (ps : List Bool) (k0 k : Nat) (f : Bool) : Prop :=
  ∀ j, ps[j]? = some true → j < k0 ∨ scan path l j = none ∨ (f = false ∧ j < k ∧ (bareAt l k 93 = true ∨ (scan path l k = none → scan path l j = none)))
theorem pmid_start {path : Bool} {l : List Ch} {ps : List Bool} {k0 k : Nat} {f : Bool} (h : Pin path l ps k0) : Pmid path l ps k0 k f := fun j hj => (h j hj).imp id .inl
theorem pmid_fail {path : Bool} {l : List Ch} {ps : List Bool} {k0 k : Nat} {f : Bool} (h : Pmid path l ps k0 k f) (hb : Fb l k f) (hs : scan path l k = none) : Pin path l ps k0 := by
  intro j hj
  rcases h j hj with h | h | ⟨h1, _, h⟩
  · exact .inl h
  · exact .inr h
  · rcases hb with hb | hb
    · rw [h1] at hb; cases hb
    · rcases h with h | h
      · rw [hb] at h; cases h
      · exact .inr (h hs)
theorem pmid_done {path : Bool} {l : List Ch} {ps : List Bool} {k0 k : Nat} {f : Bool} (h : Pmid path l ps k0 k f) (hk : k0 ≤ k) : Pin path l ps k := by
  intro j hj
  rcases h j hj with h | h | ⟨_, h, _⟩
  · exact .inl (by omega)
  · exact .inr h
  · exact .inl h
theorem pmid_passed {path : Bool} {l : List Ch} {ps : List Bool} {k0 k : Nat} {f : Bool} (h : Pmid path l ps k0 k f) (hk : k0 ≤ k) (hp : ps[k]? = some true) : scan path l k = none := by
  rcases h k hp with h | h | ⟨_, h, _⟩
  · omega
  · exact h
  · omega
/-- A place is entered: what follows hangs on it. -/
theorem pmid_enter {path : Bool} {l : List Ch} {ps : List Bool} {k0 k k' : Nat} {f : Bool} (h : Pmid path l ps k0 k f) (hb : Fb l k f) (hk : k < k') (hs : bareAt l k' 93 = false → scan path l k' = none → scan path l k = none) : Pmid path l (ps.set k true) k0 k' false := by
  intro j hj
  by_cases e : j = k
  · subst e
    refine .inr (.inr ⟨rfl, hk, ?_⟩)
    cases hbk : bareAt l k' 93 with
    | true => exact .inl rfl
    | false => exact .inr (hs hbk)
  · rw [List.getElem?_set_ne (by omega)] at hj
    rcases h j hj with h | h | ⟨h1, h2, h3⟩
    · exact .inl h
    · exact .inr (.inl h)
    · refine .inr (.inr ⟨rfl, by omega, ?_⟩)
      cases hbk : bareAt l k' 93 with
      | true => exact .inl rfl
      | false =>
        rcases hb with hb | hb
        · rw [h1] at hb; cases hb
        · rcases h3 with h3 | h3
          · rw [hb] at h3; cases h3
          · exact .inr (fun h => h3 (hs hbk h))
theorem pmid_fail_enter {path : Bool} {l : List Ch} {ps : List Bool} {k0 k : Nat} {f : Bool} (h : Pmid path l ps k0 k f) (hb : Fb l k f) (hs : scan path l k = none) : Pin path l (ps.set k true) k0 := by
  intro j hj
  by_cases e : j = k
  · subst e; exact .inr hs
  · rw [List.getElem?_set_ne (by omega)] at hj
    exact pmid_fail h hb hs j hj
theorem pin_first {path : Bool} {l : List Ch} (n k : Nat) : Pin path l (List.replicate n false) k := by
  intro j hj
  rw [List.getElem?_replicate] at hj
  split at hj <;> cases hj
theorem len_ite {c : Bool} {a b : List Rg} (ha : a.length ≤ 4) (hb : b.length ≤ 4) : (if c = true then a else b).length ≤ 4 := by cases c <;> simpa
theorem classR_len (s : ByteArray) : (classR s).length ≤ 4 := by
  unfold classR
  repeat' apply len_ite
  all_goals simp
theorem thing_len (path : Bool) (l : List Ch) (k : Nat) : (thingP path l k).1.length ≤ 4 := by
  unfold thingP
  split
  · split
    · simp
    · exact classR_len _
  · split
    · simp
    · split <;> simp
theorem thing_end {path : Bool} {l : List Ch} {k : Nat} (h : k < l.length) : k + (thingP path l k).2 ≤ l.length := by
  unfold thingP
  split
  · rename_i hc
    split
    · simp only; omega
    · simp only
      unfold classNm at hc ⊢
      split at hc
      · rename_i hb
        rw [if_pos hb]
        simp only [Bool.and_eq_true] at hb
        have h1 := bareAt_lt hb.2
        have h2 := bareAt_lt hb.1.1.2
        have := lowEnd_le (l := l) (k := k + 2) (by omega)
        rw [List.length_take, List.length_drop]
        omega
      · exact absurd rfl hc
  · have hn : k + byteN l k ≤ l.length := by
      unfold byteN
      split
      · rename_i hb
        simp only [Bool.and_eq_true, decide_eq_true_eq] at hb
        omega
      · omega
    split
    · simp only; omega
    · split
      · simp only; omega
      · simp only; omega
end Go.Proofs.YtmoihdddmeienaaDoor
