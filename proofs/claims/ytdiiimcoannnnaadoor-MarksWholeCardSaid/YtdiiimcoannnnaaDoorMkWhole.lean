/-
  Runs laid one behind the other are the text, and take turns; parts with the byte between each two are the text, and none has the byte bare.
-/
import Derived.Test.YtdiiimcoannnnaaDoorMkRs
import Derived.Test.YtdiiimcoannnnaaDoorMkOf
import Derived.Test.YtdiiimcoannnnaaDoorMkPart
namespace Go.Proofs.YtdiiimcoannnnaaDoor
open Go Go.RowKit

/-- A row of bytes that is not empty and all of one mark. -/
def OneQ (g : List Ch) : Prop := g ≠ [] ∧ ∀ c ∈ g, c.2 = headQ g
def alt : List (List Ch) → Prop
  | [] => True
  | [_] => True
  | a :: b :: r => headQ a ≠ headQ b ∧ alt (b :: r)
theorem oneQ_one (c : Ch) : OneQ [c] := ⟨by simp, fun d hd => by rw [List.mem_singleton.1 hd]; rfl⟩
theorem headQ_app {x : Ch} {n : List Ch} {c : Ch} : headQ ((x :: n) ++ [c]) = x.2 := rfl
theorem oneQ_back {g : List Ch} (h : OneQ g) : ofL (runOf g).1 (runOf g).2 = g := by
  simp only [ofL, runOf, plainS, plainL, List.map_map]
  conv => rhs; rw [← List.map_id g]
  apply List.map_congr_left
  intro c hc
  have := h.2 c hc
  simp [← this]
theorem runA_whole : ∀ (l now : List Ch), (now ≠ [] → OneQ now) →
    (∀ g ∈ runA now l, OneQ g) ∧ (runA now l).flatten = now ++ l ∧ alt (runA now l) ∧ (now ≠ [] → ∃ g r, runA now l = g :: r ∧ headQ g = headQ now)
  | [], [], _ => ⟨by simp [runA], by simp [runA], by simp [runA, alt], by simp⟩
  | [], x :: n, h => ⟨by simpa [runA] using h (by simp), by simp [runA], by simp [runA, alt], fun _ => ⟨_, _, rfl, rfl⟩⟩
  | c :: r, [], _ => by
    have e : runA [] (c :: r) = runA [c] r := by
      rw [runA, if_pos (by rfl)]
      all_goals simp
    obtain ⟨h1, h2, h3, _⟩ := runA_whole r [c] (fun _ => oneQ_one c)
    rw [e]
    exact ⟨h1, by rw [h2]; rfl, h3, by simp⟩
  | c :: r, x :: n, h => by
    have hx := h (by simp)
    by_cases hs : x.2 = c.2
    · have e : runA (x :: n) (c :: r) = runA ((x :: n) ++ [c]) r := by
        rw [runA, if_pos (by simp [sameQ, hs])]
        all_goals simp
      obtain ⟨h1, h2, h3, h4⟩ := runA_whole r ((x :: n) ++ [c]) (fun _ => ⟨by simp, fun d hd => by
        rw [headQ_app]
        rcases List.mem_append.1 hd with hd | hd
        · exact hx.2 d hd
        · rw [List.mem_singleton.1 hd, hs]⟩)
      rw [e]
      refine ⟨h1, by rw [h2]; simp, h3, fun _ => ?_⟩
      obtain ⟨g, t, hg, hq⟩ := h4 (by simp)
      exact ⟨g, t, hg, by rw [hq, headQ_app]; rfl⟩
    · have e : runA (x :: n) (c :: r) = (x :: n) :: runA [c] r := by
        rw [runA, if_neg (by simp [sameQ, hs])]
        all_goals simp
      obtain ⟨h1, h2, h3, h4⟩ := runA_whole r [c] (fun _ => oneQ_one c)
      obtain ⟨g, t, hg, hq⟩ := h4 (by simp)
      rw [e]
      refine ⟨fun g' hg' => ?_, by rw [List.flatten_cons, h2]; simp, ?_, fun _ => ⟨_, _, rfl, rfl⟩⟩
      · rcases List.mem_cons.1 hg' with hg' | hg'
        · rw [hg']; exact hx
        · exact h1 g' hg'
      · rw [hg] at h3 ⊢
        exact ⟨by rw [hq]; exact hs, h3⟩
theorem alt_at : ∀ (gs : List (List Ch)), alt gs → ∀ (k : Nat) (h : k + 1 < gs.length), headQ (gs[k]'(by omega)) ≠ headQ gs[k + 1]
  | [], _, k, h => by simp at h
  | [_], _, k, h => by simp at h
  | a :: b :: r, ha, 0, _ => ha.1
  | a :: b :: r, ha, k + 1, h => alt_at (b :: r) ha.2 k (by simpa using h)
theorem groups_whole (l : List Ch) : (∀ g ∈ groups l, OneQ g) ∧ (groups l).flatten = l ∧ alt (groups l) := by
  obtain ⟨h1, h2, h3, _⟩ := runA_whole l [] (fun h => absurd rfl h)
  exact ⟨h1, h2, h3⟩
def ofR (r : Rn) : List Ch := ofL r.1 r.2
theorem runsL_back (l : List Ch) : (runsL l).flatMap ofR = l := by
  obtain ⟨h1, h2, _⟩ := groups_whole l
  have : ∀ gs : List (List Ch), (∀ g ∈ gs, OneQ g) → (gs.map runOf).flatMap ofR = gs.flatten := by
    intro gs
    induction gs with
    | nil => intro _; rfl
    | cons g r ih =>
      intro h
      rw [List.map_cons, List.flatMap_cons, List.flatten_cons, ih (fun g' hg' => h g' (by simp [hg'])), ofR, oneQ_back (h g (by simp))]
  rw [runsL, this _ h1, h2]
theorem runsL_full (l : List Ch) (k : Nat) (h : k < (runsL l).length) : 0 < (runsL l)[k].1.size := by
  have hk : k < (groups l).length := by simpa [runsL] using h
  have hg := (groups_whole l).1 _ (List.getElem_mem hk)
  simp only [runsL, List.getElem_map, runOf, plainS]
  have : (groups l)[k].length ≠ 0 := fun h => hg.1 (List.eq_nil_of_length_eq_zero h)
  show 0 < (plainL (groups l)[k]).toArray.size
  rw [List.size_toArray, plainL_length]; omega
theorem runsL_turns (l : List Ch) (k : Nat) (h : k + 1 < (runsL l).length) : (runsL l)[k].2 ≠ (runsL l)[k + 1].2 := by
  have hk : k + 1 < (groups l).length := by simpa [runsL] using h
  have := alt_at _ (groups_whole l).2.2 k hk
  simpa only [runsL, List.getElem_map, runOf] using this
theorem flatMap_snoc {α β : Type} (f : α → List β) (l : List α) (k : Nat) (h : k < l.length) : (l.take (k + 1)).flatMap f = (l.take k).flatMap f ++ f l[k] := by
  rw [List.take_succ_eq_append_getElem h, List.flatMap_append]; simp
theorem flatMap_le {α β : Type} (f : α → List β) (l : List α) (k : Nat) : ((l.take k).flatMap f).length ≤ (l.flatMap f).length := by
  have := congrArg (fun x => (x.flatMap f).length) (List.take_append_drop k l)
  simp only [List.flatMap_append, List.length_append] at this
  omega

def withB (b : UInt8) (p : List Ch) : List Ch := (b, false) :: p
theorem partA_back (b : UInt8) : ∀ (l now : List Ch), (partA b now l).flatMap (withB b) = (b, false) :: (now ++ l)
  | [], now => by simp [partA, withB]
  | c :: r, now => by
    rw [partA]
    split
    · rename_i h
      have hc : c = (b, false) := by
        obtain ⟨x, q⟩ := c
        simp only [hit, Bool.and_eq_true, beq_iff_eq, Bool.not_eq_true'] at h
        rw [h.1, h.2]
      rw [List.flatMap_cons, partA_back b r [], hc]
      simp [withB]
    · rw [partA_back b r (now ++ [c])]; simp
theorem partA_bare (b : UInt8) : ∀ (l now : List Ch), (∀ c ∈ now, hit b c = false) → ∀ p ∈ partA b now l, ∀ c ∈ p, hit b c = false
  | [], now, h, p, hp => by
    have : p = now := by simpa [partA] using hp
    rw [this]; exact h
  | c :: r, now, h, p, hp => by
    rw [partA] at hp
    split at hp
    · rcases List.mem_cons.1 hp with hp | hp
      · rw [hp]; exact h
      · exact partA_bare b r [] (by simp) p hp
    · rename_i hc
      refine partA_bare b r (now ++ [c]) (fun d hd => ?_) p hp
      rcases List.mem_append.1 hd with hd | hd
      · exact h d hd
      · rw [List.mem_singleton.1 hd]; simpa using hc
theorem findInt_bare {l : List Ch} {b : UInt8} (h : ∀ c ∈ l, hit b c = false) : findInt l b = -1 := by
  have : findCh l b = l.length := List.findIdx_eq_length_of_false h
  rw [findInt, if_neg (by omega)]
theorem partL_bare (b : UInt8) (l : List Ch) (k : Nat) (h : k < (partL b l).length) : findInt (partL b l)[k] b = -1 :=
  findInt_bare (partA_bare b l [] (by simp) _ (List.getElem_mem h))
theorem partL_back (b : UInt8) (l : List Ch) : ((partL b l).flatMap (withB b)).drop 1 = l := by
  rw [partL, partA_back]; rfl
theorem partL_some (b : UInt8) (l : List Ch) : 0 < (partL b l).length := by
  rcases Nat.eq_zero_or_pos (partL b l).length with h | h
  · have := partA_back b l []
    rw [show partA b [] l = [] from List.eq_nil_of_length_eq_zero h] at this
    simp at this
  · exact h
def accP (b : UInt8) (P : List (List Ch)) (k : Nat) : List Ch := ((P.take k).flatMap (withB b)).drop 1
theorem accP_zero (b : UInt8) (P : List (List Ch)) : accP b P 0 = [] := by simp [accP]
theorem accP_one (b : UInt8) (P : List (List Ch)) (h : 0 < P.length) : accP b P 1 = P[0] := by
  rw [accP, flatMap_snoc _ _ 0 h]; simp [withB]
theorem accP_snoc (b : UInt8) (P : List (List Ch)) (k : Nat) (h0 : 0 < k) (h : k < P.length) : accP b P (k + 1) = accP b P k ++ [(b, false)] ++ P[k] := by
  have hne : 1 ≤ ((P.take k).flatMap (withB b)).length := by
    rw [show k = (k - 1) + 1 by omega, flatMap_snoc _ _ (k - 1) (by omega)]
    simp [withB]; omega
  rw [accP, accP, flatMap_snoc _ _ k h, List.drop_append_of_le_length hne, withB]
  simp
theorem accP_le (b : UInt8) (l : List Ch) (k : Nat) : (accP b (partL b l) k).length ≤ l.length := by
  have h1 := flatMap_le (withB b) (partL b l) k
  have h2 := congrArg List.length (partL_back b l)
  rw [List.length_drop] at h2
  rw [accP, List.length_drop]; omega
end Go.Proofs.YtdiiimcoannnnaaDoor
