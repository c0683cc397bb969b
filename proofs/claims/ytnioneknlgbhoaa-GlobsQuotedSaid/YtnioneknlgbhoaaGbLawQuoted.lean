/-
  The walk of GlobsQuoted: it answers true and leaves what was there. Conditions: none.
-/
import Derived.Test.YtnioneknlgbhoaaGbAwake
namespace Go.Proofs.Ytnioneknlgbhoaa
open Go Go.RowKit

def ones (s : List UInt8) : List It := s.map fun b => (1, b, false, [])
theorem quoted_bare (s : ByteArray) (k : Nat) (b : UInt8) : bareAt (ofL s true) k b = false := by
  unfold bareAt ofL
  rw [List.getElem?_map]
  cases s.data.toList[k]? <;> simp
theorem quoted_item (s : ByteArray) (path : Bool) (k : Nat) (h : k < s.size) : itemP path (ofL s true) k = ((1, s[k], false, []), 1) := by
  unfold itemP
  simp only [quoted_bare, Bool.false_eq_true, if_false, Bool.false_and]
  rw [byteAt_get (by rw [ofL_length]; exact h), ofL_get s true k h]
theorem quoted_comp (s : ByteArray) (path : Bool) (k : Nat) (hk : k ≤ s.size) (out : List It) : compK path (ofL s true) k out = out ++ ones ((bl s).drop k) := by
  obtain ⟨n, hn⟩ : ∃ n, s.size - k = n := ⟨_, rfl⟩
  induction n generalizing k out with
  | zero =>
    rw [compK_end (by rw [ofL_length]; omega), List.drop_of_length_le (by rw [bl_len]; omega)]
    simp [ones]
  | succ n ih =>
    have hlt : k < s.size := by omega
    rw [compK_step (by rw [ofL_length]; exact hlt), quoted_item s path k hlt]
    simp only
    rw [ih (k + 1) (by omega) _ (by omega)]
    have e : (bl s).drop k = s[k] :: (bl s).drop (k + 1) := by
      rw [List.drop_eq_getElem_cons (by rw [bl_len]; exact hlt)]
      congr 1
    rw [e]
    simp [stepOut, isStar, ones]
theorem compile_quoted (s : ByteArray) (path : Bool) : compileP path (ofL s true) = ones (bl s) := by
  rw [compile_compK, quoted_comp s path 0 (Nat.zero_le _)]
  simp
theorem ones_special (s : List UInt8) : specialP (ones s) = false := by
  rw [Bool.eq_false_iff]
  unfold specialP ones
  intro h
  rw [List.any_eq_true] at h
  obtain ⟨x, hx, hn⟩ := h
  obtain ⟨b, _, rfl⟩ := List.mem_map.1 hx
  simp [notOne] at hn
theorem ones_fit (a : List UInt8) (t : List Ch) : Fit (ones a) t ↔ t.map (·.1) = a := by
  induction a generalizing t with
  | nil => simp [ones, Fit]
  | cons b a ih =>
    show (∃ x y, t = x ++ y ∧ one (1, b, false, []) x ∧ Fit (ones a) y) ↔ _
    constructor
    · rintro ⟨x, y, rfl, ho, hf⟩
      unfold one at ho
      rw [if_neg (show ¬ (1 : Int) = 3 by decide)] at ho
      obtain ⟨c, rfl, hc⟩ := ho
      have := (ih y).1 hf
      simp only [fitM, fit, if_true, decide_true, Bool.true_or, Bool.and_true, beq_iff_eq] at hc
      simp [this, hc]
    · intro h
      cases t with
      | nil => simp at h
      | cons c t =>
        simp only [List.map_cons, List.cons.injEq] at h
        refine ⟨[c], t, rfl, ?_, (ih t).2 h.2⟩
        unfold one
        rw [if_neg (show ¬ (1 : Int) = 3 by decide)]
        exact ⟨c, rfl, by simp [fitM, fit, h.1]⟩
theorem ones_mt (a b : List UInt8) : mt (ones a) b = decide (a = b) := by
  rw [Bool.eq_iff_iff, mt_iff, ones_fit, decide_eq_true_eq]
  have : (bareCh b).map (·.1) = b := by unfold bareCh; rw [List.map_map]; exact List.map_id _
  rw [this]
  exact eq_comm
theorem ones_path (a : List UInt8) : pathM (ones a) a = true := by
  unfold pathM
  rw [mtM_iff, ones_fit, pm_map]
theorem ones_length (a : List UInt8) : (ones a).length = a.length := by simp [ones]

set_option maxHeartbeats 1000000 in
set_option maxRecDepth 100000 in
theorem lawQuoted_any (s t : ByteArray) (path : Bool) (w : World) :
    Calls Try.prog 8 #[.string s, .string t, .bool path] w fun e w' => e = .returned (.bool true) ∧ Below w.heap.size w w' := by
  by_cases hs : s.size ≤ 200
  · by_cases ht : t.size ≤ 200
    · have hle := ones_length (bl s)
      rw [bl_len] at hle
      go_enter Try.func8, Try.ntmps8
      go_wp2_with fail
      refine (of_any s true _ (by omega)).mono ?_
      rintro e w1 ⟨v1, rfl, hT, hb1⟩
      go_wp2_with fail
      refine (compile_any (ofL s true) path _ _ hT (by rw [ofL_length]; omega)).mono ?_
      rintro e w2 ⟨v2, rfl, hp, hb2⟩
      rw [compile_quoted] at hp
      have hbA : Below w.heap.size w w2 := hb1.trans (hb2.mono hb1.size)
      clear hT hb1 hb2
      obtain ⟨A, c, rfl, _, _⟩ := hp.form
      rw [hle] at hp
      go_wp2_with fail
      refine (special_any _ _ _ _ hp (Nat.le_refl _) (by omega)).mono ?_
      rintro e w3 ⟨rfl, hb3⟩
      rw [ones_special]
      have hp := (hp.below hb3).more hb3.size
      have hbA := hbA.trans (hb3.mono hbA.size)
      clear hb3
      go_wp2_with fail
      refine (match_any _ _ s _ _ hp (Nat.le_refl _) (by omega) (by omega)).mono ?_
      rintro e w4 ⟨rfl, hb4⟩
      rw [ones_mt, decide_eq_true rfl]
      have hp := (hp.below hb4).more hb4.size
      have hbA := hbA.trans (hb4.mono hbA.size)
      clear hb4
      go_wp2_with fail
      refine (path_any _ _ s _ hp (by omega) (by omega)).mono ?_
      rintro e w5 ⟨rfl, hb5⟩
      rw [ones_path]
      have hp := (hp.below hb5).more hb5.size
      have hbA := hbA.trans (hb5.mono hbA.size)
      clear hb5
      go_wp2_with fail
      refine (match_any _ _ t _ _ hp (Nat.le_refl _) (by omega) (by omega)).mono ?_
      rintro e w6 ⟨rfl, hb6⟩
      rw [ones_mt]
      have hbA := hbA.trans (hb6.mono hbA.size)
      clear hb6 hp
      by_cases he : bl s = bl t
      · have hst : s = t := ByteArray.ext (Array.toList_inj.1 he)
        subst hst
        rw [decide_eq_true rfl]
        clear he
        go_wp2_with fail
        refine (awake_any _).mono ?_
        rintro e w7 ⟨rfl, hb7⟩
        go_wp2
        go_ret
        exact ⟨rfl, hbA.trans (hb7.mono hbA.size)⟩
      · rw [decide_eq_false he]
        have hne : (s.toList == t.toList) = false := by
          rw [Lib.toList_data, Lib.toList_data]
          exact beq_eq_false_iff_ne.2 he
        clear he
        go_wp2_with fail
        refine (awake_any _).mono ?_
        rintro e w7 ⟨rfl, hb7⟩
        go_wp2
        go_ret
        exact ⟨rfl, hbA.trans (hb7.mono hbA.size)⟩
    · go_enter Try.func8, Try.ntmps8
      go_wp2_with fail
      refine (awake_any _).mono ?_
      rintro e w1 ⟨rfl, hb1⟩
      go_wp2
      go_ret
      exact ⟨rfl, hb1⟩
  · go_enter Try.func8, Try.ntmps8
    go_wp2_with fail
    refine (awake_any _).mono ?_
    rintro e w1 ⟨rfl, hb1⟩
    go_wp2
    go_ret
    exact ⟨rfl, hb1⟩
end Go.Proofs.Ytnioneknlgbhoaa
