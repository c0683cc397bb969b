/-
  few: are calls not too many, or too great; does: a call. Conditions: none.
-/
import Derived.Test.YtcobfimafpfbpaaUdRow
import Derived.Test.YtcobfimafpfbpaaUdSame
namespace Go.Proofs.Ytcobfimafpfbpaa
open Go Go.Proofs Go.RowKit Go.ChangeMaps

def fewB (l : List Opd) : Bool := decide (l.length ≤ 60) && l.all fun o => decide (o.2.1.size ≤ 100)
set_option maxHeartbeats 1000000 in
set_option maxRecDepth 100000 in
theorem few_any (l : List Opd) (v : Value) (w : World) (h : Ops w v l) : Calls Try.prog 8 #[v] w fun e w' => e = .returned (.bool (fewB l)) ∧ w' = w := by
  obtain ⟨A, c, rfl, hc, hcm⟩ := h.form
  unfold maxLen at hcm
  obtain ⟨r, hr⟩ : ∃ r, fewB l = r := ⟨_, rfl⟩
  rw [hr]
  replace hr := Lib.hid hr
  have hops := fun k hk => h.at_ (Below.refl _ w) k hk
  replace hops := Lib.hid hops
  obtain ⟨KL, hKL⟩ : ∃ KL, l.length = KL := ⟨_, rfl⟩
  rw [hKL] at hc ⊢
  replace hKL := Lib.hid hKL
  clear h
  by_cases hlen : 60 < KL
  · have hi : (60 : Int) < (KL : Int) := by omega
    have hrf : r = false := by
      rw [← hr.out]
      unfold fewB
      rw [hKL.out]
      simp; omega
    subst hrf
    go_enter Try.func8, Try.ntmps8
    go_wp2
    go_ret
    exact ⟨rfl, rfl⟩
  · have hi : ¬ (60 : Int) < (KL : Int) := by omega
    go_enter Try.func8, Try.ntmps8
    go_wp2
    go_loopw [3] (fun nv wr => ∃ n : Nat, n ≤ KL ∧ nv = .int .i64 (n : Int) ∧ wr = w ∧ Hid (∀ k (hk : k < l.length), k < n → l[k].2.1.size ≤ 100)) (fun nv _ => KL - (intOf nv).toNat)
    case atStart => exact ⟨0, Nat.zero_le _, rfl, rfl, Lib.hid fun _ _ h => absurd h (Nat.not_lt_zero _)⟩
    case round =>
      obtain ⟨n, hn, rfl, rfl, hall⟩ := hrel
      by_cases hlt : n < KL
      · have hlt' : n < l.length := by rw [hKL.out]; exact hlt
        obtain ⟨b, off, rfl, hb, _, c3, _⟩ := hops.out n hlt'
        obtain ⟨s, hs⟩ : ∃ s, l[n].2.1 = s := ⟨_, rfl⟩
        rw [hs] at c3
        replace hs := Lib.hid hs
        by_cases h3 : 100 < s.size
        · have hrf : r = false := by
            rw [← hr.out]
            unfold fewB
            rw [Bool.and_eq_false_iff]
            right
            rw [List.all_eq_false]
            exact ⟨l[n], List.getElem_mem _, by rw [hs.out]; simp; omega⟩
          subst hrf
          have h3i : (100 : Int) < (s.size : Int) := by omega
          go_wp2
          go_ret
          exact ⟨rfl, rfl⟩
        · have h3i : ¬ (100 : Int) < (s.size : Int) := by omega
          have hall2 : Hid (∀ k (hk : k < l.length), k < n + 1 → l[k].2.1.size ≤ 100) := fun k hk h => by
            rcases Nat.lt_or_ge k n with h' | h'
            · exact hall.out k hk h'
            · obtain rfl : k = n := by omega
              rw [hs.out]; omega
          clear hall
          go_wp2
          go_roundw
          case rel => exact ⟨n + 1, by omega, by go_num, trivial, hall2⟩
          case measure => simp [intOf]; omega
      · obtain rfl : n = KL := by omega
        have hrt : r = true := by
          rw [← hr.out]
          unfold fewB
          rw [Bool.and_eq_true, List.all_eq_true]
          refine ⟨by rw [hKL.out]; simp; omega, fun o ho => ?_⟩
          obtain ⟨k, hk, rfl⟩ := List.getElem_of_mem ho
          have := hall.out k hk (by have := hKL.out; omega)
          simpa using this
        subst hrt
        go_wp2
        go_ret
        exact ⟨rfl, rfl⟩
theorem few_true {l : List Opd} (h : fewB l = true) : l.length ≤ 60 ∧ ∀ k (hk : k < l.length), l[k].2.1.size ≤ 100 := by
  unfold fewB at h
  rw [Bool.and_eq_true, List.all_eq_true] at h
  exact ⟨by simpa using h.1, fun k hk => by simpa using h.2 _ (List.getElem_mem hk)⟩

end Go.Proofs.Ytcobfimafpfbpaa
