/-
  The walk of GlobsCompiles: it answers true and leaves what was there. Conditions: the marked text lies in memory that was there.
-/
import Derived.Test.YtnioneknlgbhoaaGbRefCompile
import Derived.Test.YtnioneknlgbhoaaGbSame
import Derived.Test.YtnioneknlgbhoaaGbAwake
namespace Go.Proofs.Ytnioneknlgbhoaa
open Go Go.RowKit

theorem scan_len {path : Bool} {l : List Ch} {k : Nat} {r : List Rg × Nat} (h : scan path l k = some r) : r.1.length ≤ 4 * (r.2 - k) := by
  obtain ⟨n, hn⟩ : ∃ n, l.length - k ≤ n := ⟨_, Nat.le_refl _⟩
  induction n generalizing k r with
  | zero => rw [scan_far (by omega)] at h; cases h
  | succ n ih =>
    rcases Nat.lt_or_ge k l.length with hk | hk
    · have h4 := thing_len path l k
      rw [scan_eq hk] at h
      split at h
      · cases h
      · rename_i h0
        split at h
        · injection h with h
          subst h
          simp only
          omega
        · simp only [Option.map_eq_some_iff] at h
          obtain ⟨r', hr, rfl⟩ := h
          have h1 := ih hr (by omega)
          have h2 := scan_le hr
          simp only [List.length_append]
          omega
    · rw [scan_far hk] at h; cases h
theorem item_len (path : Bool) (l : List Ch) (k : Nat) : (itemP path l k).1.2.2.2.length ≤ 4 * l.length := by
  unfold itemP
  split
  · simp
  · split
    · simp
    · split
      · simp
      · split
        · cases hg : groupP path l (k + 1) with
          | none => simp
          | some r =>
            unfold groupP at hg
            simp only [Option.map_eq_some_iff] at hg
            obtain ⟨s, hs, rfl⟩ := hg
            have h1 := scan_len hs
            have h2 := scan_le hs
            simp only
            omega
        · simp
theorem mem_step {c : Prop} [Decidable c] {x y : It} {out : List It} (h : x ∈ if c then out else out ++ [y]) : x ∈ out ∨ x = y := by
  split at h
  · exact .inl h
  · simpa using h
theorem len_step (c : Prop) [Decidable c] (y : It) (out : List It) : (if c then out else out ++ [y]).length ≤ out.length + 1 := by
  split <;> simp
theorem comp_len (path : Bool) (l : List Ch) (f k : Nat) (out : List It) (h : ∀ x ∈ out, x.2.2.2.length ≤ 4 * l.length) : ∀ x ∈ compF path l f k out, x.2.2.2.length ≤ 4 * l.length := by
  induction f generalizing k out with
  | zero => exact h
  | succ f ih =>
    simp only [compF]
    split
    · exact h
    · apply ih
      intro x hx
      rcases mem_step hx with hx | hx
      · exact h x hx
      · rw [hx]; exact item_len path l k
theorem comp_count (path : Bool) (l : List Ch) (f k : Nat) (out : List It) : (compF path l f k out).length ≤ out.length + (l.length - k) := by
  induction f generalizing k out with
  | zero => simp [compF]
  | succ f ih =>
    simp only [compF]
    split
    · omega
    · rename_i hk
      have hp := itemP_pos (path := path) (l := l) (k := k) (by omega)
      refine Nat.le_trans (ih _ _) (Nat.le_trans (Nat.add_le_add_right (len_step _ _ _) _) ?_)
      omega

set_option maxHeartbeats 4000000 in
set_option maxRecDepth 100000 in
theorem lawCompiles_any (l : List Ch) (path : Bool) (v : Value) (w : World) (ht : Tx w w.heap.size v l) :
    Calls Try.prog 3 #[v, .bool path] w fun e w' => e = .returned (.bool true) ∧ Below w.heap.size w w' := by
  obtain ⟨A, c, rfl, hc, hcm⟩ := ht.form
  unfold maxLen at hcm
  by_cases hl : l.length ≤ 300
  · have hpl : (compileP path l).length ≤ 300 := by
      have := comp_count path l (l.length + 1) 0 []
      unfold compileP
      simp at this
      omega
    have hpr : ∀ x ∈ compileP path l, x.2.2.2.length ≤ 1000000 := fun x hx => by
      have := comp_len path l (l.length + 1) 0 [] (by simp) x hx
      omega
    go_enter Try.func3, Try.ntmps3
    go_wp2_with fail
    refine (compile_any l path _ w ht (by omega)).mono ?_
    rintro e w1 ⟨v1, rfl, hp1, hb1⟩
    have htA := (ht.below hb1).more hb1.size
    obtain ⟨A1, c1, rfl, _, _⟩ := hp1.form
    go_wp2_with fail
    refine (text_any l _ _ _ htA (Nat.le_refl _) (by omega)).mono ?_
    rintro e w2 ⟨v2, rfl, ht2, hb2⟩
    have hbA := hb1.trans (hb2.mono hb1.size)
    have hp2 := (hp1.below hb2).more hb2.size
    obtain ⟨A2, c2, rfl, _, _⟩ := ht2.form
    clear htA hb1 hb2 hp1
    go_wp2_with fail
    refine (compileRef_any l path _ _ _ ht2 (Nat.le_refl _) (by omega)).mono ?_
    rintro e w3 ⟨v3, rfl, hq3, hb3⟩
    have hbB := hbA.trans (hb3.mono hbA.size)
    have hp3 := (hp2.below hb3).more hb3.size
    obtain ⟨A3, c3, rfl, _, _⟩ := hq3.form
    clear hp2 ht2 hbA hb3
    generalize compileP path l = p at *
    go_wp2_with fail
    refine (items_any p _ _ hp3 (by omega) hpr).mono ?_
    rintro e w4 ⟨v4, rfl, hq4, hb4⟩
    have hbC := hbB.trans (hb4.mono hbB.size)
    have hp4 := (hp3.below hb4).more hb4.size
    have hq5 := (hq3.below hb4).more hb4.size
    obtain ⟨A4, c4, rfl, _, _⟩ := hq4.form
    clear hbB hb4 hp3 hq3
    go_wp2_with fail
    refine (sameRef_any p _ _ _ _ hq4 hq5 (fun x hx => by have := hpr x hx; omega)).mono ?_
    rintro e w5 ⟨rfl, d, rfl⟩
    have hbD := below_drewN hbC d
    have hp5 : Its (w4.drewN d) w4.heap.size _ p := hp4
    have hq6 : Its (w4.drewN d) w4.heap.size _ p := hq5
    clear hbC hp4 hq4 hq5
    go_wp2_with fail
    refine (special_any p _ _ _ hp5 (Nat.le_refl _) (by omega)).mono ?_
    rintro e w6 ⟨rfl, hb6⟩
    have hbE := hbD.trans (hb6.mono hbD.size)
    have hq7 := hq6.below hb6
    clear hbD hp5 hq6 hb6
    go_wp2_with fail
    refine (specialRef_any p _ _ _ hq7).mono ?_
    rintro e w7 ⟨rfl, rfl⟩
    clear hq7
    generalize specialP p = sp
    go_wp2_with fail
    refine (awake_any _).mono ?_
    rintro e w8 ⟨rfl, hb8⟩
    go_wp2
    go_ret
    exact ⟨rfl, hbE.trans (hb8.mono hbE.size)⟩
  · go_enter Try.func3, Try.ntmps3
    go_wp2_with fail
    refine (awake_any _).mono ?_
    rintro e w6 ⟨rfl, hb6⟩
    go_wp2
    go_ret
    exact ⟨rfl, hb6⟩
end Go.Proofs.Ytnioneknlgbhoaa
