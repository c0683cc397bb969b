/-
  A row of bools in memory, and what one item makes of it place by place, in plain words. Conditions: none.
-/
import Derived.Test.YtmoihdddmeienaaGreatDoorGbRef2
import Derived.Test.YtmoihdddmeienaaGreatDoorGbCompile
namespace Go.Proofs.YtmoihdddmeienaaGreatDoor
open Go Go.RowKit

/-- A block that holds a row of n bools. -/
def rowB (n : Nat) (f : Nat → Bool) : Array Value := ((List.range n).map fun j => Value.bool (f j)).toArray
def rowAt (w : World) (g n : Nat) (f : Nat → Bool) : Prop := w.heap[g]? = some (.cells (rowB n f) 4 (0, 0))
theorem rowB_congr {n : Nat} {f h : Nat → Bool} (e : ∀ j, j < n → f j = h j) : rowB n f = rowB n h := by
  unfold rowB
  congr 1
  apply List.map_congr_left
  intro j hj
  rw [e j (List.mem_range.1 hj)]
theorem rowAt_congr {w : World} {g n : Nat} {f h : Nat → Bool} (hr : rowAt w g n f) (e : ∀ j, j < n → f j = h j) : rowAt w g n h := by
  unfold rowAt at hr ⊢
  rw [hr, rowB_congr e]
theorem rowAt_cell {w : World} {g n : Nat} {f : Nat → Bool} (hr : rowAt w g n f) {k : Nat} (hk : k < n) : w.cell? ⟨g, k, none⟩ = some (.bool (f k)) := by
  rw [cell_of_row w _ _ _ _ _ hr]; simp [rowB, hk]
theorem rowAt_frozen {w : World} {g n : Nat} {f : Nat → Bool} (hr : rowAt w g n f) (k : Nat) : w.frozen? ⟨g, k, none⟩ = false := frozen_of_row w _ _ _ _ hr
theorem rowB_set (n : Nat) (f : Nat → Bool) (k : Nat) (b : Bool) : (rowB n f).setIfInBounds k (.bool b) = rowB n (fun j => if j = k then b else f j) := by
  unfold rowB
  rw [List.setIfInBounds_toArray]
  congr 1
  apply List.ext_getElem?
  intro j
  rw [List.getElem?_set]
  by_cases hj : k = j
  · subst hj
    rw [if_pos rfl]
    by_cases hk : k < n
    · rw [if_pos (by simpa using hk)]; simp [hk]
    · rw [if_neg (by simpa using hk)]; simp [hk]
  · rw [if_neg hj, List.getElem?_map, List.getElem?_map]
    by_cases hk : j < n
    · simp [hk, Ne.symm hj]
    · simp [hk]
theorem rowAt_set {w : World} {g n : Nat} {f : Nat → Bool} (hr : rowAt w g n f) (k : Nat) (b : Bool) : rowAt (w.setCell ⟨g, k, none⟩ (.bool b)) g n (fun j => if j = k then b else f j) := by
  have := heap_setCell_same w g k _ _ (.bool b) hr
  rw [rowB_set] at this
  exact this
theorem rowB_false (n : Nat) : Array.replicate n (Value.bool false) = rowB n (fun _ => false) := by
  apply Array.toList_inj.1
  unfold rowB
  rw [Array.toList_replicate, List.toList_toArray]
  apply List.ext_getElem?
  intro j
  rw [List.getElem?_replicate, List.getElem?_map]
  by_cases hj : j < n <;> simp [hj]
theorem rowAt_new (w : World) (n : Nat) : rowAt (w.alloc (.cells (Array.replicate n (Value.bool false)) 4)) w.heap.size n (fun _ => false) := by
  unfold rowAt
  rw [heap_alloc_new, rowB_false]

/-- A path's bytes with their marks, or a text's without. -/
def tM (path : Bool) (s : List UInt8) : List Ch := if path then pm true s else bareCh s
theorem pm_len (st : Bool) (s : List UInt8) : (pm st s).length = s.length := by
  induction s generalizing st with
  | nil => rfl
  | cons c s ih => simp only [pm, List.length_cons, ih]
theorem tM_len (path : Bool) (s : List UInt8) : (tM path s).length = s.length := by
  unfold tM; split
  · exact pm_len _ _
  · exact bareCh_length s
theorem tM_get (path : Bool) (s : ByteArray) (i : Nat) (h : i < s.size) : (tM path (bl s))[i]? = some (s[i], path && hardB (bl s) i) := by
  unfold tM
  cases path with
  | false => simp [bareCh, bl_get s i h]
  | true =>
    simp only [if_true, Bool.true_and]
    have hl : i < (pm true (bl s)).length := by rw [pm_len, bl_len]; exact h
    have h1 : ((pm true (bl s)).map (·.1))[i]? = some s[i] := by rw [pm_map]; exact bl_get s i h
    rw [List.getElem?_map, List.getElem?_eq_getElem hl] at h1
    unfold hardB
    rw [List.getElem?_eq_getElem hl]
    simp only [Option.map_some, Option.some.injEq] at h1
    simp only [Option.map_some, Option.getD_some, Option.some.injEq]
    exact Prod.ext h1 rfl

/-- What stands at the place that is next, before it is met. -/
def carry (t : List Ch) (S : Nat → Bool) (x : It) : Nat → Bool
  | 0 => false
  | i + 1 => if x.1 = 3 then starQ t S i && (match t[i]? with | some c => !c.2 | none => false) else S i && (match t[i]? with | some c => fitM x c | none => false)
def mid (t : List Ch) (S : Nat → Bool) (x : It) (i : Nat) : Nat → Bool := fun j => if j < i then stepQ t S x j else if j = i then carry t S x i else false
theorem mid_zero (t : List Ch) (S : Nat → Bool) (x : It) (j : Nat) : mid t S x 0 j = false := by
  unfold mid
  rw [if_neg (Nat.not_lt_zero _)]
  split
  · rfl
  · rfl
theorem mid_here (t : List Ch) (S : Nat → Bool) (x : It) (i : Nat) : mid t S x i i = carry t S x i := by
  unfold mid; rw [if_neg (Nat.lt_irrefl _), if_pos rfl]
theorem step_star (t : List Ch) (S : Nat → Bool) {x : It} (h : x.1 = 3) (i : Nat) : stepQ t S x i = (carry t S x i || S i) := by
  unfold stepQ
  rw [if_pos h]
  cases i with
  | zero => simp [starQ, carry]
  | succ i => simp only [starQ, carry, if_pos h]; rw [Bool.or_comm]; cases t[i]? <;> rfl
theorem step_other (t : List Ch) (S : Nat → Bool) {x : It} (h : ¬ x.1 = 3) (i : Nat) : stepQ t S x i = carry t S x i := by
  unfold stepQ
  rw [if_neg h]
  cases i with
  | zero => rfl
  | succ i => simp only [oneQ, carry, if_neg h]; cases t[i]? <;> rfl
theorem carry_star {t : List Ch} {S : Nat → Bool} {x : It} (h : x.1 = 3) {i : Nat} {c : Ch} (hc : t[i]? = some c) : carry t S x (i + 1) = ((carry t S x i || S i) && !c.2) := by
  rw [← step_star t S h]
  simp only [carry, if_pos h, hc, stepQ]
theorem carry_other {t : List Ch} {S : Nat → Bool} {x : It} (h : ¬ x.1 = 3) {i : Nat} {c : Ch} (hc : t[i]? = some c) : carry t S x (i + 1) = (S i && fitM x c) := by
  simp only [carry, if_neg h, hc]
theorem carry_none {t : List Ch} {S : Nat → Bool} {x : It} {i : Nat} (hc : t[i]? = none) : carry t S x (i + 1) = false := by
  simp only [carry, hc]; split <;> simp
/-- Nothing was written at the next place: none is due there. -/
theorem mid_stay {t : List Ch} {S : Nat → Bool} {x : It} {i : Nat} {f : Nat → Bool} (hi : f i = stepQ t S x i) (hn : carry t S x (i + 1) = false) (hf : ∀ j, ¬ j = i → f j = mid t S x i j) (j : Nat) : f j = mid t S x (i + 1) j := by
  unfold mid
  by_cases h1 : j = i
  · subst h1; rw [if_pos (Nat.lt_succ_self _)]; exact hi
  · rw [hf j h1]
    unfold mid
    by_cases h2 : j < i
    · rw [if_pos h2, if_pos (by omega)]
    · rw [if_neg h2, if_neg h1, if_neg (by omega)]
      split
      · rename_i h3; subst h3; rw [hn]
      · rfl
/-- What is due at the next place was written there. -/
theorem mid_put {t : List Ch} {S : Nat → Bool} {x : It} {i : Nat} {f : Nat → Bool} (hi : f i = stepQ t S x i) (hn : carry t S x (i + 1) = true) (hf : ∀ j, ¬ j = i → ¬ j = i + 1 → f j = mid t S x i j) (hp : f (i + 1) = true) (j : Nat) : f j = mid t S x (i + 1) j := by
  unfold mid
  by_cases h1 : j = i
  · subst h1; rw [if_pos (Nat.lt_succ_self _)]; exact hi
  · by_cases h3 : j = i + 1
    · subst h3; rw [if_neg (Nat.lt_irrefl _), if_pos rfl, hn]; exact hp
    · rw [hf j h1 h3]
      unfold mid
      by_cases h2 : j < i
      · rw [if_pos h2, if_pos (by omega)]
      · rw [if_neg h2, if_neg h1, if_neg (by omega), if_neg h3]
theorem mid_end (t : List Ch) (S : Nat → Bool) (x : It) (n j : Nat) (h : j < n) : mid t S x n j = stepQ t S x j := by unfold mid; rw [if_pos h]
theorem endQ_snoc (t : List Ch) (p : List It) (k : Nat) (h : k < p.length) : endQ t (p.take (k + 1)) = stepQ t (endQ t (p.take k)) p[k] := by
  unfold endQ
  rw [List.take_succ_eq_append_getElem h, List.foldl_append]; rfl
theorem fitM_one {x : It} (h : x.1 = 1) (b : UInt8) (m : Bool) : fitM x (b, m) = (x.2.1 == b) := by simp [fitM, fit, h]
theorem fitM_any {x : It} (h : x.1 = 2) (b : UInt8) (m : Bool) : fitM x (b, m) = !m := by simp [fitM, fit, h]
theorem fitM_group {x : It} (h : x.1 = 4) (b : UInt8) (m : Bool) : fitM x (b, m) = ((inR x.2.2.2 b != x.2.2.1) && !m) := by simp [fitM, fit, h]
theorem fitM_none {x : It} (h1 : ¬ x.1 = 1) (h2 : ¬ x.1 = 2) (h4 : ¬ x.1 = 4) (b : UInt8) (m : Bool) : fitM x (b, m) = false := by simp [fitM, fit, h1, h2, h4]
end Go.Proofs.YtmoihdddmeienaaGreatDoor
