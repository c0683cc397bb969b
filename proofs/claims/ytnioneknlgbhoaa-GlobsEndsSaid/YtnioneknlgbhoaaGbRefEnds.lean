/-
  The reference's Head and Tail tell how long the shortest, or longest, beginning (end) is that a pattern fits. Conditions: at most a million items and bytes.
-/
import Derived.Test.YtnioneknlgbhoaaGbRefFits
import Derived.Test.YtnioneknlgbhoaaGbTail
namespace Go.Proofs.Ytnioneknlgbhoaa
open Go Go.RowKit

theorem pick_step (f : Nat → Bool) (lg : Bool) (n : Nat) : pickI f lg (n + 1) = if f n && (lg || decide (pickI f lg n < 0)) then (n : Int) else pickI f lg n := rfl
theorem pickI_congr {f h : Nat → Bool} (lg : Bool) (n : Nat) (e : ∀ k, k < n → f k = h k) : pickI f lg n = pickI h lg n := by
  induction n with
  | zero => rfl
  | succ n ih => rw [pick_step, pick_step, ih (fun k hk => e k (by omega)), e n (by omega)]

set_option maxHeartbeats 2000000 in
set_option maxRecDepth 100000 in
theorem headRef_any (p : List It) (v : Value) (s : ByteArray) (lg : Bool) (B : Nat) (w : World) (ht : Its w B v p) (hB : B ≤ w.heap.size) (hl : p.length ≤ 1000000) (hs : s.size ≤ 999999) :
    Calls Try.prog 26 #[v, .string s, .bool lg] w fun e w' => e = .returned (.int .i64 (headI p (bl s) lg)) ∧ Below w.heap.size w w' := by
  obtain ⟨A, c, rfl, hc, hcm⟩ := ht.form
  obtain ⟨m, hm⟩ : ∃ m, headI p (bl s) lg = m := ⟨_, rfl⟩
  have hm2 : pickI (endQ (tM false (bl s)) p) lg (s.size + 1) = m := by
    rw [← hm]
    unfold headI
    rw [bl_len]
    exact pickI_congr lg _ fun k hk => endQ_take p (bl s) k (by rw [bl_len]; omega)
  rw [hm]
  have hm2 := Lib.hid hm2
  clear hm
  go_enter Try.func26, Try.ntmps26
  go_wp2_with fail
  refine (ends_any p _ s false B w ht hB hl hs).mono ?_
  rintro e w1 ⟨g, rfl, hr, hb⟩
  generalize endQ (tM false (bl s)) p = F at hr hm2
  go_wp2
  go_loop [8, 9] (fun at_ nv => ∃ (n : Nat) (x : Int), n ≤ s.size + 1 ∧ at_ = .int .i64 x ∧ nv = .int .i64 n ∧ -1 ≤ x ∧ x < n ∧ Hid (pickI F lg n = x)) (fun _ nv => s.size + 1 - (intOf nv).toNat)
  case atStart => exact ⟨0, -1, by omega, rfl, rfl, by omega, by omega, rfl⟩
  case round =>
    obtain ⟨n, x, hn, rfl, rfl, hx1, hx2, hx⟩ := hrel
    by_cases hlt : n < s.size + 1
    · have c0 := rowAt_cell hr hlt
      have hst := pick_step F lg n
      rw [hx.out] at hst
      generalize F n = b at c0 hst
      cases b with
      | false =>
        have hn2 : Hid (pickI F lg (n + 1) = x) := by rw [Hid, hst]; simp
        clear hst hx
        go_wp2
        go_round
        case rel => first | exact ⟨n + 1, x, by omega, rfl, by go_num, by omega, by omega, hn2⟩ | exact ⟨n + 1, by omega, by go_num, by omega, by omega, hn2⟩ | exact ⟨n + 1, by omega, by go_num, by omega, hn2⟩ | exact ⟨n + 1, by omega, by go_num, hn2⟩
        case measure => simp [intOf]; omega
      | true =>
        have hcase : lg = true ∨ (lg = false ∧ x < 0) ∨ (lg = false ∧ ¬ x < 0) := by
          cases lg
          · by_cases h : x < 0
            · exact .inr (.inl ⟨rfl, h⟩)
            · exact .inr (.inr ⟨rfl, h⟩)
          · exact .inl rfl
        rcases hcase with rfl | ⟨rfl, hx0⟩ | ⟨rfl, hx0⟩
        · have hn2 : Hid (pickI F true (n + 1) = (n : Int)) := by rw [Hid, hst]; simp
          clear hst hx
          go_wp2
          go_round
          case rel => first | exact ⟨n + 1, n, by omega, rfl, by go_num, by omega, by omega, hn2⟩ | exact ⟨n + 1, by omega, by go_num, by omega, by omega, hn2⟩ | exact ⟨n + 1, by omega, by go_num, by omega, hn2⟩ | exact ⟨n + 1, by omega, by go_num, hn2⟩
          case measure => simp [intOf]; omega
        · have hn2 : Hid (pickI F false (n + 1) = (n : Int)) := by rw [Hid, hst]; simp [hx0]
          clear hst hx
          go_wp2
          go_round
          case rel => first | exact ⟨n + 1, n, by omega, rfl, by go_num, by omega, by omega, hn2⟩ | exact ⟨n + 1, by omega, by go_num, by omega, by omega, hn2⟩ | exact ⟨n + 1, by omega, by go_num, by omega, hn2⟩ | exact ⟨n + 1, by omega, by go_num, hn2⟩
          case measure => simp [intOf]; omega
        · have hn2 : Hid (pickI F false (n + 1) = x) := by rw [Hid, hst]; simp [hx0]
          clear hst hx
          go_wp2
          go_round
          case rel => first | exact ⟨n + 1, x, by omega, rfl, by go_num, by omega, by omega, hn2⟩ | exact ⟨n + 1, by omega, by go_num, by omega, by omega, hn2⟩ | exact ⟨n + 1, by omega, by go_num, by omega, hn2⟩ | exact ⟨n + 1, by omega, by go_num, hn2⟩
          case measure => simp [intOf]; omega
    · have hfin : x = m := by
        have := hx.out
        rw [show n = s.size + 1 by omega, hm2.out] at this
        exact this.symm
      subst hfin
      clear hx hm2 hr
      go_wp2
      go_ret
      exact ⟨rfl, hb⟩

set_option maxHeartbeats 2000000 in
set_option maxRecDepth 100000 in
theorem tailRef_any (p : List It) (v : Value) (s : ByteArray) (lg : Bool) (B : Nat) (w : World) (ht : Its w B v p) (hB : B ≤ w.heap.size) (hl : p.length ≤ 1000000) (hs : s.size ≤ 999999) :
    Calls Try.prog 28 #[v, .string s, .bool lg] w fun e w' => e = .returned (.int .i64 (tailI p (bl s) lg)) ∧ Below w.heap.size w w' := by
  obtain ⟨A, c, rfl, hc, hcm⟩ := ht.form
  obtain ⟨m, hm⟩ : ∃ m, tailI p (bl s) lg = m := ⟨_, rfl⟩
  rw [hm]
  unfold tailI at hm
  rw [bl_len] at hm
  obtain ⟨F, hF⟩ : ∃ F : Nat → Bool, F = fun n => mt p ((bl s).drop (s.size - n)) := ⟨_, rfl⟩
  rw [← hF] at hm
  have hFn := Lib.hid (fun n => congrFun hF n)
  have hm2 := Lib.hid hm
  clear hm hF
  go_enter Try.func28, Try.ntmps28
  go_wp2
  go_loopw [7, 8] (fun at_ nv wr => ∃ (n : Nat) (x : Int), n ≤ s.size + 1 ∧ at_ = .int .i64 x ∧ nv = .int .i64 n ∧ Below w.heap.size w wr ∧ -1 ≤ x ∧ x < n ∧ Hid (pickI F lg n = x)) (fun _ nv _ => s.size + 1 - (intOf nv).toNat)
  case atStart => exact ⟨0, -1, by omega, rfl, rfl, Below.refl _ _, by omega, by omega, rfl⟩
  case round =>
    obtain ⟨n, x, hn, rfl, rfl, hb, hx1, hx2, hx⟩ := hrel
    have hsz := hb.size
    by_cases hlt : n < s.size + 1
    · have hst := pick_step F lg n
      have hFn2 := hFn.out n
      rw [hx.out] at hst
      have hcall := matchRef_any p _ (s.extract (s.size - n) s.size) _ wr ((ht.more hB).below hb) hsz hl (by simp; omega)
      have hbl : bl (s.extract (s.size - n) s.size) = (bl s).drop (s.size - n) := bl_from s _
      rw [hbl, ← hFn2] at hcall
      clear hbl hFn2
      generalize F n = b at hcall hst
      have hk1 : ((s.size : Int) - (n : Int)) = ((s.size - n : Nat) : Int) := by omega
      cases b with
      | false =>
        have hn2 : Hid (pickI F lg (n + 1) = x) := by rw [Hid, hst]; simp
        clear hst hx
        go_wp2_with fail
        refine hcall.mono ?_
        rintro e w1 ⟨rfl, hb1⟩
        clear hcall hk1
        have hb2 := hb.trans (hb1.mono hsz)
        clear hb hb1
        go_wp2
        go_roundw
        case rel => first | exact ⟨n + 1, x, by omega, rfl, by go_num, hb2, by omega, by omega, hn2⟩ | exact ⟨n + 1, by omega, by go_num, hb2, by omega, by omega, hn2⟩ | exact ⟨n + 1, by omega, by go_num, hb2, by omega, hn2⟩ | exact ⟨n + 1, by omega, by go_num, hb2, hn2⟩
        case measure => simp [intOf]; omega
      | true =>
        have hcase : lg = true ∨ (lg = false ∧ x < 0) ∨ (lg = false ∧ ¬ x < 0) := by
          cases lg
          · by_cases h : x < 0
            · exact .inr (.inl ⟨rfl, h⟩)
            · exact .inr (.inr ⟨rfl, h⟩)
          · exact .inl rfl
        rcases hcase with rfl | ⟨rfl, hx0⟩ | ⟨rfl, hx0⟩
        · have hn2 : Hid (pickI F true (n + 1) = (n : Int)) := by rw [Hid, hst]; simp
          clear hst hx
          go_wp2_with fail
          refine hcall.mono ?_
          rintro e w1 ⟨rfl, hb1⟩
          clear hcall hk1
          have hb2 := hb.trans (hb1.mono hsz)
          clear hb hb1
          go_wp2
          go_roundw
          case rel => first | exact ⟨n + 1, n, by omega, rfl, by go_num, hb2, by omega, by omega, hn2⟩ | exact ⟨n + 1, by omega, by go_num, hb2, by omega, by omega, hn2⟩ | exact ⟨n + 1, by omega, by go_num, hb2, by omega, hn2⟩ | exact ⟨n + 1, by omega, by go_num, hb2, hn2⟩
          case measure => simp [intOf]; omega
        · have hn2 : Hid (pickI F false (n + 1) = (n : Int)) := by rw [Hid, hst]; simp [hx0]
          clear hst hx
          go_wp2_with fail
          refine hcall.mono ?_
          rintro e w1 ⟨rfl, hb1⟩
          clear hcall hk1
          have hb2 := hb.trans (hb1.mono hsz)
          clear hb hb1
          go_wp2
          go_roundw
          case rel => first | exact ⟨n + 1, n, by omega, rfl, by go_num, hb2, by omega, by omega, hn2⟩ | exact ⟨n + 1, by omega, by go_num, hb2, by omega, by omega, hn2⟩ | exact ⟨n + 1, by omega, by go_num, hb2, by omega, hn2⟩ | exact ⟨n + 1, by omega, by go_num, hb2, hn2⟩
          case measure => simp [intOf]; omega
        · have hn2 : Hid (pickI F false (n + 1) = x) := by rw [Hid, hst]; simp [hx0]
          clear hst hx
          go_wp2_with fail
          refine hcall.mono ?_
          rintro e w1 ⟨rfl, hb1⟩
          clear hcall hk1
          have hb2 := hb.trans (hb1.mono hsz)
          clear hb hb1
          go_wp2
          go_roundw
          case rel => first | exact ⟨n + 1, x, by omega, rfl, by go_num, hb2, by omega, by omega, hn2⟩ | exact ⟨n + 1, by omega, by go_num, hb2, by omega, by omega, hn2⟩ | exact ⟨n + 1, by omega, by go_num, hb2, by omega, hn2⟩ | exact ⟨n + 1, by omega, by go_num, hb2, hn2⟩
          case measure => simp [intOf]; omega
    · have hfin : x = m := by
        have := hx.out
        rw [show n = s.size + 1 by omega, hm2.out] at this
        exact this.symm
      subst hfin
      clear hx hm2
      go_wp2
      go_ret
      exact ⟨rfl, hb⟩
end Go.Proofs.Ytnioneknlgbhoaa
