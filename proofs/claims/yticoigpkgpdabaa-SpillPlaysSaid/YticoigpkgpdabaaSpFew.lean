/-
  few: are calls not too many, or too great; a call's cells over what the package's calls change.
-/
import Derived.Test.YticoigpkgpdabaaSpRow
import Derived.Test.YticoigpkgpdabaaSpAwake
namespace Go.Proofs.Yticoigpkgpdabaa
open Go Go.RowKit

def fewB (l : List Opd) : Bool := decide (l.length ≤ 40) && l.all fun o => decide (o.2.2.2.size ≤ 300)
set_option maxHeartbeats 1000000 in
set_option maxRecDepth 100000 in
theorem few_any (l : List Opd) (v : Value) (w : World) (h : Ops w v l) : Calls Try.prog 7 #[v] w fun e w' => e = .returned (.bool (fewB l)) ∧ w' = w := by
  obtain ⟨A, c, rfl, hc, hcm⟩ := h.form
  unfold maxLen at hcm
  obtain ⟨r, hr⟩ : ∃ r, fewB l = r := ⟨_, rfl⟩
  rw [hr]
  replace hr := Lib.hid hr
  have hops := fun k hk => h.at_ k hk
  replace hops := Lib.hid hops
  obtain ⟨KL, hKL⟩ : ∃ KL, l.length = KL := ⟨_, rfl⟩
  rw [hKL] at hc ⊢
  replace hKL := Lib.hid hKL
  clear h
  by_cases hlen : 40 < KL
  · have hi : (40 : Int) < (KL : Int) := by omega
    have hrf : r = false := by
      rw [← hr.out]
      unfold fewB
      rw [hKL.out]
      simp; omega
    subst hrf
    go_enter Try.func7, Try.ntmps7
    go_wp2
    go_ret
    exact ⟨rfl, rfl⟩
  · have hi : ¬ (40 : Int) < (KL : Int) := by omega
    go_enter Try.func7, Try.ntmps7
    go_wp2
    go_loopw [3] (fun nv wr => ∃ n : Nat, n ≤ KL ∧ nv = .int .i64 (n : Int) ∧ wr = w ∧ Hid (∀ k (hk : k < l.length), k < n → l[k].2.2.2.size ≤ 300)) (fun nv _ => KL - (intOf nv).toNat)
    case atStart => exact ⟨0, Nat.zero_le _, rfl, rfl, Lib.hid fun _ _ h => absurd h (Nat.not_lt_zero _)⟩
    case round =>
      obtain ⟨n, hn, rfl, rfl, hall⟩ := hrel
      by_cases hlt : n < KL
      · have hlt' : n < l.length := by rw [hKL.out]; exact hlt
        obtain ⟨b, off, rfl, hb, _, _, _, c3⟩ := hops.out n hlt'
        obtain ⟨s, hs⟩ : ∃ s, l[n].2.2.2 = s := ⟨_, rfl⟩
        rw [hs] at c3
        replace hs := Lib.hid hs
        by_cases h3 : 300 < s.size
        · have hrf : r = false := by
            rw [← hr.out]
            unfold fewB
            rw [Bool.and_eq_false_iff]
            right
            rw [List.all_eq_false]
            exact ⟨l[n], List.getElem_mem _, by rw [hs.out]; simp; omega⟩
          subst hrf
          have h3i : (300 : Int) < (s.size : Int) := by omega
          go_wp2
          go_ret
          exact ⟨rfl, rfl⟩
        · have h3i : ¬ (300 : Int) < (s.size : Int) := by omega
          have hall2 : Hid (∀ k (hk : k < l.length), k < n + 1 → l[k].2.2.2.size ≤ 300) := fun k hk h => by
            rcases Nat.lt_or_ge k n with h' | h'
            · exact hall.out k hk h'
            · obtain rfl : k = n := by omega
              rw [hs.out]; omega
          clear hall
          go_wp2
          go_roundw
          case rel => exact ⟨n + 1, by omega, by go_num, trivial, hall2⟩
          case measure => simp [intOf]; omega
      · obtain rfl : n = KL := by omega
        have hrt : r = true := by
          rw [← hr.out]
          unfold fewB
          rw [Bool.and_eq_true, List.all_eq_true]
          refine ⟨by rw [hKL.out]; simp; omega, fun o ho => ?_⟩
          obtain ⟨k, hk, rfl⟩ := List.getElem_of_mem ho
          have := hall.out k hk (by have := hKL.out; omega)
          simpa using this
        subst hrt
        go_wp2
        go_ret
        exact ⟨rfl, rfl⟩
theorem few_true {l : List Opd} (h : fewB l = true) : l.length ≤ 40 ∧ ∀ k (hk : k < l.length), l[k].2.2.2.size ≤ 300 := by
  unfold fewB at h
  rw [Bool.and_eq_true, List.all_eq_true] at h
  exact ⟨by simpa using h.1, fun k hk => by simpa using h.2 _ (List.getElem_mem hk)⟩

/-- A call's cells, whatever the package's calls changed. -/
theorem ops_keep {w wr : World} {A : Option Addr} {n c : Nat} {l : List Opd} (h : Ops w (.slice A n c) l) (hm : Mv w.heap.size (fun _ => True) w wr) (k : Nat) (hk : k < l.length) : ∃ b off : Nat, A = some ⟨b, off, none⟩ ∧ b < w.heap.size ∧
    wr.cell? ⟨b, off + k * 4, none⟩ = some (.int .i64 l[k].1) ∧ wr.cell? ⟨b, off + k * 4 + 1, none⟩ = some (.int .i64 l[k].2.1) ∧ wr.cell? ⟨b, off + k * 4 + 2, none⟩ = some (.int .i64 l[k].2.2.1) ∧ wr.cell? ⟨b, off + k * 4 + 3, none⟩ = some (.string l[k].2.2.2) := by
  obtain ⟨b, off, hA, hb, c0, c1, c2, c3⟩ := h.at_ k hk
  have hk := hm.keep b hb (.inl hb)
  exact ⟨b, off, hA, hb, (World.cell?_of_block (a := ⟨b, off + k * 4, none⟩) hk).trans c0, (World.cell?_of_block (a := ⟨b, off + k * 4 + 1, none⟩) hk).trans c1, (World.cell?_of_block (a := ⟨b, off + k * 4 + 2, none⟩) hk).trans c2, (World.cell?_of_block (a := ⟨b, off + k * 4 + 3, none⟩) hk).trans c3⟩
end Go.Proofs.Yticoigpkgpdabaa
