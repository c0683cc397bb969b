/-
  The longest rows of bytes that are all quoted, or all bare, as a function; a slice of runs as cells.
-/
import Derived.Test.YtdiiimcoannnnaaDoorMkPlain
namespace Go.Proofs.YtdiiimcoannnnaaDoor
open Go Go.RowKit

def sameQ : List Ch → Ch → Bool
  | [], _ => true
  | x :: _, c => x.2 == c.2
def runA : List Ch → List Ch → List (List Ch)
  | [], [] => []
  | x :: now, [] => [x :: now]
  | now, c :: r => if sameQ now c then runA (now ++ [c]) r else now :: runA [c] r
def groups (l : List Ch) : List (List Ch) := runA [] l

/-- A run: its bytes and its mark. -/
abbrev Rn := ByteArray × Bool
def headQ : List Ch → Bool
  | [] => false
  | x :: _ => x.2
def runOf (g : List Ch) : Rn := (plainS g, headQ g)
def rr (r : Rn) : List Value := [.string r.1, .bool r.2]
def cellsRn (l : List Rn) : List Value := l.flatMap rr
def runsL (l : List Ch) : List Rn := (groups l).map runOf

def seg (l : List Ch) (a k : Nat) : List Ch := (l.drop a).take (k - a)
theorem seg_length {l : List Ch} {a k : Nat} (h : k ≤ l.length) : (seg l a k).length = k - a := by
  simp only [seg, List.length_take, List.length_drop]; omega
theorem seg_nil (l : List Ch) (a : Nat) : seg l a a = [] := by simp [seg]
theorem seg_snoc {l : List Ch} {a k : Nat} (ha : a ≤ k) (hk : k < l.length) : seg l a (k + 1) = seg l a k ++ [l[k]] := by
  have e : k + 1 - a = (k - a) + 1 := by omega
  have h : k - a < (l.drop a).length := by rw [List.length_drop]; omega
  simp only [seg]
  rw [e, List.take_succ_eq_append_getElem h, List.getElem_drop]
  simp only [show a + (k - a) = k by omega]
theorem seg_cons {l : List Ch} {a k : Nat} (ha : a < k) (hk : k ≤ l.length) : seg l a k = l[a]'(by omega) :: seg l (a + 1) k := by
  simp only [seg]
  rw [List.drop_eq_getElem_cons (by omega), show k - a = (k - (a + 1)) + 1 by omega, List.take_succ_cons]
theorem headQ_seg {l : List Ch} {a k : Nat} (ha : a < k) (hk : k ≤ l.length) : headQ (seg l a k) = (l[a]'(by omega)).2 := by rw [seg_cons ha hk]; rfl
theorem sameQ_seg {l : List Ch} {a k : Nat} (ha : a ≤ k) (hk : k < l.length) : sameQ (seg l a k) l[k] = (l[a].2 == l[k].2) := by
  rcases Nat.lt_or_ge a k with h | h
  · rw [seg_cons h (by omega)]; rfl
  · have : a = k := by omega
    subst this
    rw [seg_nil]; simp [sameQ]
theorem runA_step {l : List Ch} {a k : Nat} (ha : a ≤ k) (hk : k < l.length) (hs : l[a].2 = l[k].2) : runA (seg l a k) (l.drop k) = runA (seg l a (k + 1)) (l.drop (k + 1)) := by
  rw [List.drop_eq_getElem_cons hk, seg_snoc ha hk]
  have := sameQ_seg ha hk
  rw [hs, beq_self_eq_true] at this
  rcases hx : seg l a k with _ | ⟨x, n⟩
  · rw [runA, if_pos (by rfl)]
    all_goals simp
  · rw [runA, if_pos (by rw [← hx]; exact this)]
    all_goals simp
theorem runA_cut {l : List Ch} {a k : Nat} (ha : a < k) (hk : k < l.length) (hs : ¬ l[a].2 = l[k].2) : runA (seg l a k) (l.drop k) = seg l a k :: runA (seg l k (k + 1)) (l.drop (k + 1)) := by
  have h1 := sameQ_seg (Nat.le_of_lt ha) hk
  have h2 : (l[a].2 == l[k].2) = false := by simpa using hs
  rw [h2] at h1
  rw [List.drop_eq_getElem_cons hk, seg_snoc (Nat.le_refl k) hk, seg_nil, List.nil_append]
  rcases hx : seg l a k with _ | ⟨x, n⟩
  · have := seg_length (l := l) (a := a) (k := k) (by omega)
    rw [hx] at this
    simp at this; omega
  · rw [runA, if_neg (by rw [← hx, h1]; decide)]
    all_goals simp
theorem runA_end {l : List Ch} {a : Nat} (ha : a < l.length) : runA (seg l a l.length) (l.drop l.length) = [seg l a l.length] := by
  rw [List.drop_length]
  rcases hx : seg l a l.length with _ | ⟨x, n⟩
  · have := seg_length (l := l) (a := a) (k := l.length) (Nat.le_refl _)
    rw [hx] at this
    simp at this; omega
  · rfl
theorem cellsRn_append (l m : List Rn) : cellsRn (l ++ m) = cellsRn l ++ cellsRn m := by simp [cellsRn]
theorem runA_length (l : List Ch) : ∀ now : List Ch, (runA now l).length ≤ l.length + 1 := by
  induction l with
  | nil => intro now; cases now <;> simp [runA]
  | cons c r ih =>
    intro now
    rcases now with _ | ⟨x, n⟩
    · rw [runA, if_pos (by rfl)]
      · have := ih ([] ++ [c]); simp only [List.length_cons] at *; omega
      all_goals simp
    · rw [runA]
      · split
        · have := ih ((x :: n) ++ [c]); simp only [List.length_cons] at *; omega
        · have := ih [c]; simp only [List.length_cons] at *; omega
      all_goals simp
end Go.Proofs.YtdiiimcoannnnaaDoor
