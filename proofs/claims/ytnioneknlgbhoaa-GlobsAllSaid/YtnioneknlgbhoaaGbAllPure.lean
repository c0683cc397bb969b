/-
  Plain words of All: the texts of each length out of an alphabet, how many there are, and in which order they come. Conditions: none.
-/
import Derived.Test.YtnioneknlgbhoaaMkWords
import Derived.Test.YtnioneknlgbhoaaProg
namespace Go.Proofs.Ytnioneknlgbhoaa
open Go Go.RowKit

/-- The texts that are one byte longer, out of the first k bytes. -/
def kidsB (al t : ByteArray) (k : Nat) : List ByteArray := (List.range k).map fun i => t ++ al.extract i (i + 1)
def kidsA (al t : ByteArray) : List ByteArray := kidsB al t al.size
/-- The texts of k bytes. -/
def lev (al : ByteArray) : Nat → List ByteArray
  | 0 => [⟨#[]⟩]
  | k + 1 => (lev al k).flatMap (kidsA al)
/-- The texts of fewer than k bytes. -/
def bef (al : ByteArray) : Nat → List ByteArray
  | 0 => []
  | k + 1 => bef al k ++ lev al k
/-- How many they are. -/
def cnt (n : Nat) : Nat → Nat
  | 0 => 0
  | k + 1 => cnt n k + n ^ k

theorem kidsB_succ (al t : ByteArray) (k : Nat) : kidsB al t (k + 1) = kidsB al t k ++ [t ++ al.extract k (k + 1)] := by simp [kidsB, List.range_succ]
theorem kidsB_len (al t : ByteArray) (k : Nat) : (kidsB al t k).length = k := by simp [kidsB]
theorem kidsA_len (al t : ByteArray) : (kidsA al t).length = al.size := kidsB_len _ _ _
theorem flat_len (al : ByteArray) (l : List ByteArray) : (l.flatMap (kidsA al)).length = l.length * al.size := by
  induction l with
  | nil => simp
  | cons a l ih => rw [List.flatMap_cons, List.length_append, ih, kidsA_len, List.length_cons, Nat.succ_mul, Nat.add_comm]
theorem lev_len (al : ByteArray) : ∀ k, (lev al k).length = al.size ^ k
  | 0 => rfl
  | k + 1 => by rw [lev, flat_len, lev_len al k, Nat.pow_succ]
theorem bef_len (al : ByteArray) : ∀ k, (bef al k).length = cnt al.size k
  | 0 => rfl
  | k + 1 => by rw [bef, List.length_append, bef_len al k, lev_len, cnt]
theorem lev_size (al : ByteArray) : ∀ k, ∀ t ∈ lev al k, t.size = k
  | 0, t, h => by
    simp only [lev, List.mem_singleton] at h
    subst h; rfl
  | k + 1, t, h => by
    simp only [lev, List.mem_flatMap] at h
    obtain ⟨u, hu, h⟩ := h
    simp only [kidsA, kidsB, List.mem_map, List.mem_range] at h
    obtain ⟨i, hi, rfl⟩ := h
    have := lev_size al k u hu
    simp [ByteArray.size_append, ByteArray.size_extract]
    omega
theorem cnt_mono (n : Nat) {k m : Nat} (h : k ≤ m) : cnt n k ≤ cnt n m := by
  induction m with
  | zero => rw [show k = 0 by omega]; exact Nat.le_refl _
  | succ m ih =>
    by_cases hk : k = m + 1
    · subst hk; exact Nat.le_refl _
    · have := ih (by omega)
      rw [cnt]; omega
theorem cnt_ge (n : Nat) (hn : 0 < n) : ∀ m, m ≤ cnt n m
  | 0 => Nat.le_refl _
  | m + 1 => by
    have h1 := cnt_ge n hn m
    have h2 : 0 < n ^ m := Nat.pow_pos hn
    rw [cnt]; omega
theorem lev_none (al : ByteArray) (h : al.size = 0) : ∀ k, 0 < k → lev al k = []
  | k + 1, _ => by
    apply List.eq_nil_of_length_eq_zero
    rw [lev_len, h]; simp
theorem bef_none (al : ByteArray) (h : al.size = 0) {k m : Nat} (hk : 0 < k) (hm : k ≤ m) : bef al m = bef al k := by
  induction m with
  | zero => omega
  | succ m ih =>
    by_cases e : k = m + 1
    · rw [e]
    · rw [bef, ih (by omega), lev_none al h m (by omega), List.append_nil]
theorem lev_nil {al : ByteArray} {k : Nat} (h : lev al k = []) : al.size = 0 ∧ 0 < k := by
  have h1 := lev_len al k
  rw [h] at h1
  simp only [List.length_nil] at h1
  constructor
  · rcases Nat.eq_zero_or_pos al.size with h0 | h0
    · exact h0
    · have : 0 < al.size ^ k := Nat.pow_pos h0
      omega
  · rcases Nat.eq_zero_or_pos k with h0 | h0
    · subst h0; simp at h1
    · exact h0
/-- Where there are no texts of k bytes, those of fewer are all. -/
theorem bef_all {al : ByteArray} {k m : Nat} (h : lev al k = []) (hm : k ≤ m) : bef al (m + 1) = bef al (k + 1) :=
  bef_none al (lev_nil h).1 (by omega) (by omega)

/-- How the queue stands: these have come, those wait. -/
def QS (al : ByteArray) (most : Nat) (pre q : List ByteArray) : Prop :=
  ∃ k j, k ≤ most ∧ j ≤ (lev al k).length ∧ pre = bef al k ++ (lev al k).take j ∧ q = (lev al k).drop j ++ (if k < most then ((lev al k).take j).flatMap (kidsA al) else [])
theorem QS.start (al : ByteArray) (most : Nat) : QS al most [] [⟨#[]⟩] := ⟨0, 0, Nat.zero_le _, Nat.zero_le _, rfl, by simp [lev]⟩
theorem QS.done {al : ByteArray} {most : Nat} {pre : List ByteArray} (h : QS al most pre []) : pre = bef al (most + 1) := by
  obtain ⟨k, j, hk, hj, rfl, hq⟩ := h
  have h1 := List.append_eq_nil_iff.1 hq.symm
  have hjl : j = (lev al k).length := by have := congrArg List.length h1.1; rw [List.length_drop, List.length_nil] at this; omega
  have h2 := h1.2
  rw [hjl, List.take_length] at h2 ⊢
  by_cases hlt : k < most
  · rw [if_pos hlt] at h2
    rw [show bef al k ++ lev al k = bef al (k + 1) from rfl]
    have h3 : lev al (k + 1) = [] := h2
    exact (bef_none al (lev_nil h3).1 (by omega) (by omega)).symm
  · rw [show k = most by omega]
    rfl
/-- A thing stands where it stands: if all of a row have come, the next row begins. -/
theorem QS.norm {al : ByteArray} {most : Nat} {pre q : List ByteArray} {t : ByteArray} (h : QS al most pre (t :: q)) :
    ∃ k j, k ≤ most ∧ ∃ hj : j < (lev al k).length, pre = bef al k ++ (lev al k).take j ∧ t = (lev al k)[j] ∧ q = (lev al k).drop (j + 1) ++ (if k < most then ((lev al k).take j).flatMap (kidsA al) else []) := by
  have key : ∀ k j, k ≤ most → j < (lev al k).length → pre = bef al k ++ (lev al k).take j → t :: q = (lev al k).drop j ++ (if k < most then ((lev al k).take j).flatMap (kidsA al) else []) →
      ∃ k j, k ≤ most ∧ ∃ hj : j < (lev al k).length, pre = bef al k ++ (lev al k).take j ∧ t = (lev al k)[j] ∧ q = (lev al k).drop (j + 1) ++ (if k < most then ((lev al k).take j).flatMap (kidsA al) else []) := by
    intro k j hk hj hp hq
    rw [List.drop_eq_getElem_cons hj, List.cons_append] at hq
    injection hq with h1 h2
    exact ⟨k, j, hk, hj, hp, h1, h2⟩
  obtain ⟨k, j, hk, hj, hp, hq⟩ := h
  by_cases hlt : j < (lev al k).length
  · exact key k j hk hlt hp hq
  · have hjl : j = (lev al k).length := by omega
    rw [hjl, List.drop_length, List.take_length, List.nil_append] at hq
    by_cases hkm : k < most
    · rw [if_pos hkm] at hq
      have e : (lev al k).flatMap (kidsA al) = lev al (k + 1) := rfl
      rw [e] at hq
      refine key (k + 1) 0 (by omega) (by rw [← hq]; simp) ?_ ?_
      · rw [hp, hjl, List.take_length]; simp [bef]
      · rw [hq]; simp
    · rw [if_neg hkm] at hq; cases hq
theorem QS.step {al : ByteArray} {most : Nat} {pre q : List ByteArray} {t : ByteArray} (h : QS al most pre (t :: q)) :
    t.size ≤ most ∧ (t.size = most → QS al most (pre ++ [t]) q) ∧ (t.size < most → QS al most (pre ++ [t]) (q ++ kidsA al t)) := by
  obtain ⟨k, j, hk, hj, rfl, rfl, rfl⟩ := h.norm
  have hs := lev_size al k _ (List.getElem_mem hj)
  have ht : (lev al k).take (j + 1) = (lev al k).take j ++ [(lev al k)[j]] := by rw [List.take_succ_eq_append_getElem hj]
  refine ⟨by omega, fun e => ⟨k, j + 1, hk, hj, by rw [ht, List.append_assoc], ?_⟩, fun e => ⟨k, j + 1, hk, hj, by rw [ht, List.append_assoc], ?_⟩⟩
  · rw [if_neg (by omega), if_neg (by omega)]
  · rw [if_pos (by omega), if_pos (by omega), ht, List.flatMap_append, List.append_assoc]
    simp
theorem lev_bef {al : ByteArray} {k m : Nat} {t : ByteArray} (h : t ∈ lev al k) (hk : k ≤ m) : t ∈ bef al (m + 1) := by
  induction m with
  | zero => rw [show k = 0 by omega] at h; exact List.mem_append_right _ h
  | succ m ih =>
    by_cases e : k = m + 1
    · subst e; exact List.mem_append_right _ h
    · exact List.mem_append_left _ (ih (by omega))
theorem QS.mem {al : ByteArray} {most : Nat} {pre q : List ByteArray} {t : ByteArray} (h : QS al most pre (t :: q)) : t ∈ bef al (most + 1) := by
  obtain ⟨k, j, hk, hj, rfl, rfl, rfl⟩ := h.norm
  exact lev_bef (List.getElem_mem hj) hk
theorem QS.len {al : ByteArray} {most : Nat} {pre q : List ByteArray} (h : QS al most pre q) : pre.length + q.length ≤ cnt al.size (most + 1) := by
  obtain ⟨k, j, hk, hj, rfl, rfl⟩ := h
  have hb := bef_len al k
  have hl := lev_len al k
  by_cases hlt : k < most
  · rw [if_pos hlt, List.length_append, List.length_append, List.length_take, List.length_drop, flat_len, List.length_take, Nat.min_eq_left hj]
    have h1 := cnt_mono al.size (show k + 1 + 1 ≤ most + 1 by omega)
    have h2 : cnt al.size (k + 1 + 1) = cnt al.size k + al.size ^ k + al.size ^ k * al.size := by rw [cnt, cnt, Nat.pow_succ]
    have h3 : j * al.size ≤ al.size ^ k * al.size := Nat.mul_le_mul_right _ (by omega)
    omega
  · rw [if_neg hlt, List.append_nil, List.length_append, List.length_take, List.length_drop, Nat.min_eq_left hj]
    have h1 := cnt_mono al.size (show k + 1 ≤ most + 1 by omega)
    have h2 : cnt al.size (k + 1) = cnt al.size k + al.size ^ k := rfl
    omega
theorem bef_size {al : ByteArray} {k : Nat} {t : ByteArray} (h : t ∈ bef al k) : t.size < k := by
  induction k with
  | zero => cases h
  | succ k ih =>
    rcases List.mem_append.1 h with h | h
    · have := ih h; omega
    · have := lev_size al k t h; omega

/-- How the reference's texts stand within a row: all of fewer than n + 1 bytes, and the first j of n bytes with each byte behind them, and k of the next. -/
theorem row_len {al : ByteArray} {n most j : Nat} (hn : n < most) (hj : j ≤ (lev al n).length) : (bef al (n + 1) ++ ((lev al n).take j).flatMap (kidsA al)).length ≤ cnt al.size (most + 1) := by
  rw [List.length_append, bef_len, flat_len, List.length_take, Nat.min_eq_left hj]
  have h1 := cnt_mono al.size (show n + 1 + 1 ≤ most + 1 by omega)
  have h2 : cnt al.size (n + 1 + 1) = cnt al.size (n + 1) + al.size ^ n * al.size := by rw [cnt, Nat.pow_succ]
  rw [lev_len] at hj
  have h3 : j * al.size ≤ al.size ^ n * al.size := Nat.mul_le_mul_right _ hj
  omega
theorem row_whole (al : ByteArray) (n : Nat) : bef al (n + 1) ++ ((lev al n).take (lev al n).length).flatMap (kidsA al) = bef al (n + 1 + 1) := by
  rw [List.take_length]; rfl
theorem row_next {al : ByteArray} {n j : Nat} (hj : j < (lev al n).length) : ((lev al n).take (j + 1)).flatMap (kidsA al) = ((lev al n).take j).flatMap (kidsA al) ++ kidsA al (lev al n)[j] := by
  rw [List.take_succ_eq_append_getElem hj, List.flatMap_append]; simp

/-- A string's cell each. -/
def cellsT (l : List ByteArray) : List Value := l.map Value.string
theorem cellsT_length (l : List ByteArray) : (cellsT l).length = l.length := by simp [cellsT]
theorem cellsT_append (l m : List ByteArray) : cellsT (l ++ m) = cellsT l ++ cellsT m := by simp [cellsT]
theorem cellsT_get {l : List ByteArray} {k : Nat} (h : k < l.length) : (cellsT l)[k]? = some (.string l[k]) := by simp [cellsT, h]
theorem cellsT_one (l : List ByteArray) : ∀ u ∈ cellsT l, u.oneCell' = true := by
  intro u hu
  simp only [cellsT, List.mem_map] at hu
  obtain ⟨a, _, rfl⟩ := hu
  rfl
end Go.Proofs.Ytnioneknlgbhoaa
