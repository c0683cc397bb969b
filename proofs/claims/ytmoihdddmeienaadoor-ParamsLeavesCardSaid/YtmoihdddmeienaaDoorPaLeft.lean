/-
  What is left of a value, told of it: a beginning or an end, the longest no more than the shortest, and that a quoted text takes itself away. Conditions: none.
-/
import Derived.Test.YtmoihdddmeienaaDoorPaTrim
import Derived.Test.YtmoihdddmeienaaDoorMkOf
namespace Go.Proofs.YtmoihdddmeienaaDoor
open Go Go.RowKit

def ones (s : List UInt8) : List It := s.map fun b => (1, b, false, [])
theorem quoted_bare (s : ByteArray) (k : Nat) (b : UInt8) : bareAt (ofL s true) k b = false := by
  unfold bareAt ofL
  rw [List.getElem?_map]
  cases s.data.toList[k]? <;> simp
theorem quoted_item (s : ByteArray) (path : Bool) (k : Nat) (h : k < s.size) : itemP path (ofL s true) k = ((1, s[k], false, []), 1) := by
  unfold itemP
  simp only [quoted_bare, Bool.false_eq_true, if_false, Bool.false_and]
  rw [byteAt_get (by rw [ofL_length]; exact h), ofL_get s true k h]
theorem quoted_comp (s : ByteArray) (path : Bool) (k : Nat) (hk : k ≤ s.size) (out : List It) : compK path (ofL s true) k out = out ++ ones ((bl s).drop k) := by
  obtain ⟨n, hn⟩ : ∃ n, s.size - k = n := ⟨_, rfl⟩
  induction n generalizing k out with
  | zero =>
    rw [compK_end (by rw [ofL_length]; omega), List.drop_of_length_le (by rw [bl_len]; omega)]
    simp [ones]
  | succ n ih =>
    have hlt : k < s.size := by omega
    rw [compK_step (by rw [ofL_length]; exact hlt), quoted_item s path k hlt]
    simp only
    rw [ih (k + 1) (by omega) _ (by omega)]
    have e : (bl s).drop k = s[k] :: (bl s).drop (k + 1) := by
      rw [List.drop_eq_getElem_cons (by rw [bl_len]; exact hlt)]
      congr 1
    rw [e]
    simp [stepOut, isStar, ones]
theorem compile_quoted (s : ByteArray) (path : Bool) : compileP path (ofL s true) = ones (bl s) := by
  rw [compile_compK, quoted_comp s path 0 (Nat.zero_le _)]
  simp
theorem ones_fit (a : List UInt8) (t : List Ch) : Fit (ones a) t ↔ t.map (·.1) = a := by
  induction a generalizing t with
  | nil => simp [ones, Fit]
  | cons b a ih =>
    show (∃ x y, t = x ++ y ∧ one (1, b, false, []) x ∧ Fit (ones a) y) ↔ _
    constructor
    · rintro ⟨x, y, rfl, ho, hf⟩
      unfold one at ho
      rw [if_neg (show ¬ (1 : Int) = 3 by decide)] at ho
      obtain ⟨c, rfl, hc⟩ := ho
      have := (ih y).1 hf
      simp only [fitM, fit, if_true, decide_true, Bool.true_or, Bool.and_true, beq_iff_eq] at hc
      simp [this, hc]
    · intro h
      cases t with
      | nil => simp at h
      | cons c t =>
        simp only [List.map_cons, List.cons.injEq] at h
        refine ⟨[c], t, rfl, ?_, (ih t).2 h.2⟩
        unfold one
        rw [if_neg (show ¬ (1 : Int) = 3 by decide)]
        exact ⟨c, rfl, by simp [fitM, fit, h.1]⟩
theorem ones_mt (a b : List UInt8) : mt (ones a) b = decide (a = b) := by
  rw [Bool.eq_iff_iff, mt_iff, ones_fit, decide_eq_true_eq]
  have : (bareCh b).map (·.1) = b := by unfold bareCh; rw [List.map_map]; exact List.map_id _
  rw [this]
  exact eq_comm
theorem ones_length (a : List UInt8) : (ones a).length = a.length := by simp [ones]

theorem ba_ext {a b : ByteArray} (h : bl a = bl b) : a = b := ByteArray.ext (Array.toList_inj.1 h)
theorem bl_add (a b : ByteArray) : bl (a ++ b) = bl a ++ bl b := by unfold bl; rw [ByteArray.data_append, Array.toList_append]
theorem size_add (a b : ByteArray) : (a ++ b).size = a.size + b.size := by rw [← bl_len, bl_add, List.length_append, bl_len, bl_len]
theorem size_from (s : ByteArray) (n : Nat) : (s.extract n s.size).size = s.size - n := by rw [← bl_len, bl_from, List.length_drop, bl_len]
theorem size_upto (s : ByteArray) (n : Nat) (h : n ≤ s.size) : (s.extract 0 n).size = n := by rw [← bl_len, bl_upto, List.length_take, bl_len]; omega
theorem upto_all (s : ByteArray) : s.extract 0 s.size = s := ba_ext (by rw [bl_upto, List.take_of_length_le (by rw [bl_len]; exact Nat.le_refl _)])
theorem from_0 (s : ByteArray) : s.extract 0 s.size = s := upto_all s

theorem cutH_end (n : Int) (s : ByteArray) (h : n ≤ s.size) : (cutH n s).size ≤ s.size ∧ s.extract (s.size - (cutH n s).size) s.size = cutH n s := by
  unfold cutH
  by_cases h0 : 0 ≤ n
  · rw [if_pos h0, size_from]
    refine ⟨by omega, ?_⟩
    rw [show s.size - (s.size - n.toNat) = n.toNat by omega]
  · rw [if_neg h0, Nat.sub_self]
    exact ⟨Nat.le_refl _, from_0 s⟩
theorem cutT_begin (n : Int) (s : ByteArray) : (cutT n s).size ≤ s.size ∧ s.extract 0 (cutT n s).size = cutT n s := by
  unfold cutT
  by_cases h0 : 0 ≤ n
  · rw [if_pos h0, size_upto s _ (by omega)]
    exact ⟨by omega, rfl⟩
  · rw [if_neg h0]
    exact ⟨Nat.le_refl _, upto_all s⟩
theorem pick_order (f : Nat → Bool) (n : Nat) : pickI f false n ≤ pickI f true n := by
  rcases pickI_spec f false n with ⟨h1, h2⟩ | ⟨m, hm, h1, h2, h3⟩
  · rw [h1]; exact pick_ge _ _ _
  · rcases pickI_spec f true n with ⟨g1, g2⟩ | ⟨q, hq, g1, g2, g3⟩
    · rw [g2 m hm] at h2; cases h2
    · rw [h1, g1]
      have := g3 m hm h2
      simp at this
      omega
theorem pick_neg (f : Nat → Bool) (n : Nat) : pickI f true n < 0 ↔ pickI f false n < 0 := by
  have h1 := pick_order f n
  rcases pickI_spec f false n with ⟨h2, h3⟩ | ⟨m, hm, h2, h3, _⟩
  · rcases pickI_spec f true n with ⟨g1, g2⟩ | ⟨q, hq, g1, g2, g3⟩
    · rw [h2, g1]
    · rw [h3 q hq] at g2; cases g2
  · omega
theorem cutH_order (a b : Int) (s : ByteArray) (h : a ≤ b) (hn : b < 0 ↔ a < 0) : (cutH b s).size ≤ (cutH a s).size := by
  unfold cutH
  by_cases h0 : 0 ≤ a
  · rw [if_pos h0, if_pos (by omega), size_from, size_from]; omega
  · rw [if_neg h0, if_neg (by omega)]; exact Nat.le_refl _
theorem cutT_order (a b : Int) (s : ByteArray) (h : a ≤ b) (hn : b < 0 ↔ a < 0) : (cutT b s).size ≤ (cutT a s).size := by
  unfold cutT
  by_cases h0 : 0 ≤ a
  · rw [if_pos h0, if_pos (by omega), size_upto _ _ (by omega), size_upto _ _ (by omega)]; omega
  · rw [if_neg h0, if_neg (by omega)]; exact Nat.le_refl _
/-- All that ParamsLeaves asks of the four. -/
theorem left_all (p : List It) (s : ByteArray) :
    ((leftP 0 p s).size ≤ s.size ∧ s.extract (s.size - (leftP 0 p s).size) s.size = leftP 0 p s) ∧ ((leftP 1 p s).size ≤ s.size ∧ s.extract (s.size - (leftP 1 p s).size) s.size = leftP 1 p s) ∧
    ((leftP 2 p s).size ≤ s.size ∧ s.extract 0 (leftP 2 p s).size = leftP 2 p s) ∧ ((leftP 3 p s).size ≤ s.size ∧ s.extract 0 (leftP 3 p s).size = leftP 3 p s) ∧
    (leftP 1 p s).size ≤ (leftP 0 p s).size ∧ (leftP 3 p s).size ≤ (leftP 2 p s).size :=
  ⟨cutH_end _ s (headI_in p s false).2, cutH_end _ s (headI_in p s true).2, cutT_begin _ s, cutT_begin _ s,
    cutH_order _ _ s (pick_order _ _) (pick_neg _ _), cutT_order _ _ s (pick_order _ _) (pick_neg _ _)⟩

theorem headI_own (s v : ByteArray) : headI (ones (bl s)) (bl (s ++ v)) false = s.size := by
  unfold headI
  rcases pickI_spec (fun n => mt (ones (bl s)) ((bl (s ++ v)).take n)) false ((bl (s ++ v)).length + 1) with ⟨_, h2⟩ | ⟨m, hm, h1, h2, _⟩
  · have := h2 s.size (by rw [bl_len, size_add]; omega)
    simp only [ones_mt, bl_add, decide_eq_false_iff_not] at this
    exact absurd (by rw [← bl_len s, List.take_left]) this
  · rw [h1]
    simp only [ones_mt, decide_eq_true_eq] at h2
    have := congrArg List.length h2
    rw [List.length_take, bl_len] at this
    rw [bl_len, size_add] at this hm
    omega
theorem tailI_own (s v : ByteArray) : tailI (ones (bl s)) (bl (v ++ s)) true = s.size := by
  unfold tailI
  rcases pickI_spec (fun n => mt (ones (bl s)) ((bl (v ++ s)).drop ((bl (v ++ s)).length - n))) true ((bl (v ++ s)).length + 1) with ⟨_, h2⟩ | ⟨m, hm, h1, h2, _⟩
  · have := h2 s.size (by rw [bl_len, size_add]; omega)
    simp only [ones_mt, decide_eq_false_iff_not] at this
    refine absurd ?_ this
    rw [bl_add, List.length_append, bl_len, bl_len, Nat.add_sub_cancel, ← bl_len v, List.drop_left]
  · rw [h1]
    simp only [ones_mt, decide_eq_true_eq] at h2
    have := congrArg List.length h2
    rw [List.length_drop, bl_len] at this
    rw [bl_len, size_add] at this hm
    omega
theorem left_own_head (s v : ByteArray) : leftP 0 (compileP false (ofL s true)) (s ++ v) = v := by
  rw [compile_quoted]
  show cutH (headI (ones (bl s)) (bl (s ++ v)) false) (s ++ v) = v
  rw [headI_own]
  unfold cutH
  rw [if_pos (by omega), Int.toNat_natCast]
  apply ba_ext
  rw [bl_from, bl_add, ← bl_len s, List.drop_left]
theorem left_own_tail (s v : ByteArray) : leftP 3 (compileP false (ofL s true)) (v ++ s) = v := by
  rw [compile_quoted]
  show cutT (tailI (ones (bl s)) (bl (v ++ s)) true) (v ++ s) = v
  rw [tailI_own]
  unfold cutT
  rw [if_pos (by omega), Int.toNat_natCast]
  apply ba_ext
  rw [bl_upto, bl_add, size_add, Nat.add_sub_cancel, ← bl_len v, List.take_left]
end Go.Proofs.YtmoihdddmeienaaDoor
