/-
  What a text says (Read), as a function on its bytes, in three modes: 0 bare, 1 behind a backslash, 2 between quotes.
-/
import Derived.Test.YtdiiimcoannnnaaDoorMkOf
import Derived.Lib.Bytealg
namespace Go.Proofs.YtdiiimcoannnnaaDoor
open Go Go.RowKit

def rd : Nat → List UInt8 → Option (List Ch)
  | 0, [] => some []
  | _, [] => none
  | 0, b :: r => if b = 39 then rd 2 r else if b = 92 then rd 1 r else (rd 0 r).map ((b, false) :: ·)
  | 1, b :: r => if b = 10 then rd 0 r else (rd 0 r).map ((b, true) :: ·)
  | _, b :: r => if b = 39 then rd 0 r else (rd 2 r).map ((b, true) :: ·)
def readT (L : List UInt8) : List Ch := (rd 0 L).getD []
def readE (L : List UInt8) : Int := if (rd 0 L).isSome then 0 else 30

/-- acc has been read out of the first k bytes, and the reader stands in mode m. -/
def Rd (m : Nat) (L : List UInt8) (acc : List Ch) (k : Nat) : Prop := rd 0 L = (rd m (L.drop k)).map (acc ++ ·)

section
variable {L : List UInt8} {acc : List Ch} {k : Nat} {c : UInt8}
theorem drop_at (h : L[k]? = some c) : L.drop k = c :: L.drop (k + 1) := by
  obtain ⟨h1, h2⟩ := List.getElem?_eq_some_iff.1 h
  rw [List.drop_eq_getElem_cons h1, h2]
theorem Rd.start : Rd 0 L [] 0 := by
  simp only [Rd, List.drop_zero, List.nil_append]
  cases rd 0 L <;> rfl
theorem Rd.done (h : Rd 0 L acc k) (hk : L.length ≤ k) : rd 0 L = some acc := by
  rw [Rd, List.drop_of_length_le hk] at h
  simpa [rd] using h
theorem Rd.bare (h : Rd 0 L acc k) (hc : L[k]? = some c) (h1 : ¬ c = 39) (h2 : ¬ c = 92) : Rd 0 L (acc ++ [(c, false)]) (k + 1) := by
  rw [Rd, drop_at hc, rd, if_neg h1, if_neg h2, Option.map_map] at h
  rw [Rd, h]
  congr 1
  funext x
  simp
theorem Rd.back (h : Rd 0 L acc k) (hc : L[k]? = some 92) : Rd 1 L acc (k + 1) := by
  rw [Rd, drop_at hc, rd, if_neg (by decide), if_pos rfl] at h
  exact h
theorem Rd.quote (h : Rd 0 L acc k) (hc : L[k]? = some 39) : Rd 2 L acc (k + 1) := by
  rw [Rd, drop_at hc, rd, if_pos rfl] at h
  exact h
theorem Rd.more1 (h : Rd 1 L acc k) (hk : L.length ≤ k) : rd 0 L = none := by
  rw [Rd, List.drop_of_length_le hk] at h
  simpa [rd] using h
theorem Rd.feed (h : Rd 1 L acc k) (hc : L[k]? = some 10) : Rd 0 L acc (k + 1) := by
  rw [Rd, drop_at hc, rd, if_pos rfl] at h
  exact h
theorem Rd.byte (h : Rd 1 L acc k) (hc : L[k]? = some c) (h1 : ¬ c = 10) : Rd 0 L (acc ++ [(c, true)]) (k + 1) := by
  rw [Rd, drop_at hc, rd, if_neg h1, Option.map_map] at h
  rw [Rd, h]
  congr 1
  funext x
  simp
theorem Rd.more2 (h : Rd 2 L acc k) (hk : L.length ≤ k) : rd 0 L = none := by
  rw [Rd, List.drop_of_length_le hk] at h
  simpa [rd] using h
theorem Rd.close (h : Rd 2 L acc k) (hc : L[k]? = some 39) : Rd 0 L acc (k + 1) := by
  rw [Rd, drop_at hc, rd, if_pos rfl] at h
  · exact h
  all_goals omega
theorem Rd.within (h : Rd 2 L acc k) (hc : L[k]? = some c) (h1 : ¬ c = 39) : Rd 2 L (acc ++ [(c, true)]) (k + 1) := by
  rw [Rd, drop_at hc, rd, if_neg h1, Option.map_map] at h
  · rw [Rd, h]
    congr 1
    funext x
    simp
  all_goals omega
theorem rd2_none (l : List UInt8) (h : Lib.indexByte l 39 = -1) : rd 2 l = none := by
  induction l with
  | nil => rfl
  | cons b r ih =>
    simp only [Lib.indexByte] at h
    split at h
    · omega
    · rename_i hb
      have hb' : ¬ b = 39 := by simpa using hb
      split at h
      · rename_i he
        rw [rd, if_neg hb', ih (by simpa using he)]
        · rfl
        all_goals omega
      · have := Lib.indexByte_ge r 39
        rename_i he
        have : ¬ Lib.indexByte r 39 = -1 := by simpa using he
        omega
theorem rd2_some (l : List UInt8) : ∀ m : Nat, Lib.indexByte l 39 = (m : Int) → m < l.length ∧ rd 2 l = (rd 0 (l.drop (m + 1))).map ((l.take m).map (fun b => (b, true)) ++ ·) := by
  induction l with
  | nil => intro m h; simp [Lib.indexByte] at h
  | cons b r ih =>
    intro m h
    simp only [Lib.indexByte] at h
    split at h
    · rename_i hb
      have hb' : b = 39 := by simpa using hb
      have hm : m = 0 := by omega
      subst hm
      refine ⟨by simp, ?_⟩
      rw [rd, if_pos hb']
      · simp only [List.take_zero, List.map_nil, List.nil_append, Nat.zero_add, List.drop_succ_cons, List.drop_zero]
        cases rd 0 r <;> rfl
      all_goals omega
    · rename_i hb
      have hb' : ¬ b = 39 := by simpa using hb
      split at h
      · omega
      · have hge := Lib.indexByte_ge r 39
        rename_i he
        have hne : ¬ Lib.indexByte r 39 = -1 := by simpa using he
        obtain ⟨m', rfl⟩ : ∃ m', m = m' + 1 := ⟨m - 1, by omega⟩
        obtain ⟨h1, h2⟩ := ih m' (by omega)
        refine ⟨by simp; omega, ?_⟩
        rw [rd, if_neg hb', h2, Option.map_map]
        · rfl
        all_goals omega
theorem Rd.jump {m : Nat} (h : Rd 2 L acc k) (hm : Lib.indexByte (L.drop k) 39 = (m : Int)) :
    k + m < L.length ∧ Rd 0 L (acc ++ ((L.drop k).take m).map (fun b => (b, true))) (k + m + 1) := by
  obtain ⟨h1, h2⟩ := rd2_some _ m hm
  rw [List.length_drop] at h1
  refine ⟨by omega, ?_⟩
  rw [Rd, h2, Option.map_map, List.drop_drop] at h
  rw [Rd, h]
  congr 1
  funext x
  simp
theorem Rd.unclosed (h : Rd 2 L acc k) (hm : Lib.indexByte (L.drop k) 39 = -1) : rd 0 L = none := by
  rw [Rd, rd2_none _ hm] at h
  exact h
end
theorem rd_length : ∀ (l : List UInt8) (m : Nat) (x : List Ch), rd m l = some x → x.length ≤ l.length
  | [], 0, x, h => by
    have : x = [] := by simpa [rd] using h.symm
    simp [this]
  | [], m + 1, x, h => by simp [rd] at h
  | b :: r, 0, x, h => by
    rw [rd] at h
    split at h
    · have := rd_length r 2 x h
      simp only [List.length_cons]; omega
    · split at h
      · have := rd_length r 1 x h
        simp only [List.length_cons]; omega
      · obtain ⟨y, hy, rfl⟩ := Option.map_eq_some_iff.1 h
        have := rd_length r 0 y hy
        simp only [List.length_cons]; omega
  | b :: r, 1, x, h => by
    rw [rd] at h
    split at h
    · have := rd_length r 0 x h
      simp only [List.length_cons]; omega
    · obtain ⟨y, hy, rfl⟩ := Option.map_eq_some_iff.1 h
      have := rd_length r 0 y hy
      simp only [List.length_cons]; omega
  | b :: r, m + 2, x, h => by
    rw [rd] at h
    · split at h
      · have := rd_length r 0 x h
        simp only [List.length_cons]; omega
      · obtain ⟨y, hy, rfl⟩ := Option.map_eq_some_iff.1 h
        have := rd_length r 2 y hy
        simp only [List.length_cons]; omega
    all_goals omega
theorem readT_length (s : ByteArray) {n : Nat} (h : s.size ≤ n) : (readT s.data.toList).length ≤ n := by
  have hs := Lib.size_eq s
  unfold readT
  cases hr : rd 0 s.data.toList with
  | none => simp
  | some x =>
    have := rd_length _ _ _ hr
    simp only [Option.getD_some]
    omega
theorem readT_some {L : List UInt8} {l : List Ch} (h : rd 0 L = some l) : readT L = l ∧ readE L = 0 := by simp [readT, readE, h]
theorem readT_none {L : List UInt8} (h : rd 0 L = none) : readT L = [] ∧ readE L = 30 := by simp [readT, readE, h]
end Go.Proofs.YtdiiimcoannnnaaDoor
