/-
  Numbers in plain words: what a byte says in a base, the number with which a text begins, and which number a text is. No program in it.
-/
import Derived.WalkKit
import Derived.Lib.Hide
namespace Go.Proofs.YtlijlgbaikijnaaGreatDoor

/-- What a byte says in a number; 16 of one that says nothing in any. -/
def digV (b : UInt8) : Nat :=
  if 48 ≤ b.toNat ∧ b.toNat ≤ 57 then b.toNat - 48
  else if 97 ≤ b.toNat ∧ b.toNat ≤ 102 then b.toNat - 97 + 10
  else if 65 ≤ b.toNat ∧ b.toNat ≤ 70 then b.toNat - 65 + 10
  else 16
theorem digV_le (b : UInt8) : digV b ≤ 16 := by unfold digV; split <;> (try split) <;> (try split) <;> omega
/-- The value of digits of a base. -/
def valB (base : Nat) (l : List UInt8) : Nat := l.foldl (fun v b => v * base + digV b) 0
def digRun (base : Nat) (l : List UInt8) : List UInt8 := l.takeWhile fun b => decide (digV b < base)
/-- The base of the number with which a text begins, and how many bytes say it. -/
def headB (l : List UInt8) : Nat × Nat :=
  if l[0]? = some 48 then
    (match l[1]?, l[2]? with
     | some x, some d => if (x = 120 ∨ x = 88) ∧ digV d < 16 then (16, 2) else (8, 0)
     | _, _ => (8, 0))
  else (10, 0)
/-- The number with which a text begins, and of how many bytes it is told; of none, if there is none. -/
def digitsP (l : List UInt8) : Nat × Nat := (valB (headB l).1 (digRun (headB l).1 (l.drop (headB l).2)), (headB l).2 + (digRun (headB l).1 (l.drop (headB l).2)).length)
def tooBig : Nat := 9223372036854775809

theorem valB_snoc (base : Nat) (l : List UInt8) (b : UInt8) : valB base (l ++ [b]) = valB base l * base + digV b := by simp [valB, List.foldl_append]
theorem valB_take (base : Nat) (l : List UInt8) (k : Nat) (h : k < l.length) : valB base (l.take (k + 1)) = valB base (l.take k) * base + digV l[k] := by
  rw [List.take_succ_eq_append_getElem h, valB_snoc]
/-- A value that stays at the bound, once it is beyond it. -/
theorem sat_step (base V d : Nat) (hb : 1 ≤ base) : min (V * base + d) tooBig = if tooBig / base < min V tooBig then tooBig else min (min V tooBig * base + d) tooBig := by
  split
  · rename_i h
    have h1 : tooBig < V * base := by
      have h2 : tooBig / base < V := by omega
      have := Nat.lt_mul_of_div_lt h2 (by omega)
      rwa [Nat.mul_comm] at this ⊢
    omega
  · rename_i h
    by_cases hV : V ≤ tooBig
    · rw [Nat.min_eq_left hV]
    · have h1 : min V tooBig = tooBig := by omega
      rw [h1] at h ⊢
      have h2 : tooBig ≤ tooBig / base := by omega
      have h3 := Nat.div_mul_le_self tooBig base
      have h4 : V ≤ V * base := Nat.le_mul_of_pos_right V (by omega)
      have h5 : tooBig ≤ tooBig * base := Nat.le_mul_of_pos_right _ (by omega)
      omega
theorem runIn_ {base : Nat} {l : List UInt8} {k : Nat} (h : k < (digRun base l).length) : ∃ hk : k < l.length, digV l[k] < base ∧ (digRun base l).take (k + 1) = l.take (k + 1) := by
  have hp : (digRun base l) <+: l := List.takeWhile_prefix _
  have hk : k < l.length := Nat.lt_of_lt_of_le h hp.length_le
  refine ⟨hk, ?_, ?_⟩
  · have h1 : (digRun base l)[k] ∈ digRun base l := List.getElem_mem h
    have h2 : decide (digV (digRun base l)[k] < base) = true := List.all_eq_true.1 (List.all_takeWhile (p := fun b => decide (digV b < base)) (l := l)) _ h1
    have h3 : (digRun base l)[k] = l[k] := hp.getElem h
    rw [h3] at h2
    simpa using h2
  · have := List.prefix_iff_eq_take.1 hp
    rw [this, List.take_take]
    congr 1; omega
theorem run_stop {base : Nat} {l : List UInt8} {k : Nat} (hk : k < l.length) (hall : ∀ j (hj : j < l.length), j < k → digV l[j] < base) (h : ¬ digV l[k] < base) : digRun base l = l.take k := by
  unfold digRun
  induction l generalizing k with
  | nil => simp at hk
  | cons x l ih =>
    cases k with
    | zero => simp only [List.getElem_cons_zero] at h; simp [h]
    | succ k =>
      have h0 := hall 0 (by simp) (by omega)
      simp only [List.getElem_cons_zero] at h0
      rw [List.takeWhile_cons, if_pos (by simpa using h0), List.take_succ_cons, ih (by simpa using hk) (fun j hj hjk => by have := hall (j + 1) (by simpa using hj) (by omega); simpa using this) (by simpa using h)]
theorem run_all {base : Nat} {l : List UInt8} (hall : ∀ j (hj : j < l.length), digV l[j] < base) : digRun base l = l := by
  unfold digRun
  induction l with
  | nil => rfl
  | cons x l ih =>
    have h0 := hall 0 (by simp)
    simp only [List.getElem_cons_zero] at h0
    rw [List.takeWhile_cons, if_pos (by simpa using h0), ih fun j hj => by have := hall (j + 1) (by simpa using hj); simpa using this]
end Go.Proofs.YtlijlgbaikijnaaGreatDoor
