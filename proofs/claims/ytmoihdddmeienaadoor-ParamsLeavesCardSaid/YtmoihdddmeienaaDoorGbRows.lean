/-
  rows cuts a pattern at its stars into rows of sets. Conditions: at most a million items.
-/
import Derived.Test.YtmoihdddmeienaaDoorGbFits
import Derived.Test.YtmoihdddmeienaaDoorMkTexts
import Derived.Test.YtmoihdddmeienaaDoorMkLast
import Derived.Deep.RegionHeld3
import Derived.Deep.AppendLies
namespace Go.Proofs.YtmoihdddmeienaaDoor
open Go Go.RowKit

def cellsSets (l : List St) : List Value := l.flatMap cellsSt
theorem cellsSets_length (l : List St) : (cellsSets l).length = l.length * 4 := by
  induction l with
  | nil => rfl
  | cons a l ih => simp only [cellsSets, List.flatMap_cons, List.length_append, cellsSt, List.length_cons, List.length_nil] at ih ⊢; omega
theorem cellsSets_append (l m : List St) : cellsSets (l ++ m) = cellsSets l ++ cellsSets m := by simp [cellsSets]
theorem cellsSets_at (l : List St) (k j : Nat) (hk : k < l.length) (hj : j < 4) : (cellsSets l)[k * 4 + j]? = some (.int .u64 (l[k] j : Int)) := by
  induction l generalizing k with
  | nil => simp at hk
  | cons a l ih =>
    cases k with
    | zero =>
      simp only [cellsSets, List.flatMap_cons, Nat.zero_mul, Nat.zero_add, List.getElem_cons_zero]
      rw [List.getElem?_append_left (by simp [cellsSt]; exact hj)]
      exact cellsSt_get a j hj
    | succ k =>
      have e : (k + 1) * 4 + j = k * 4 + j + 1 + 1 + 1 + 1 := by omega
      have := ih k (by simpa using hk)
      simp only [cellsSets, List.flatMap_cons, cellsSt, e, List.cons_append, List.nil_append, List.getElem?_cons_succ, List.getElem_cons_succ] at this ⊢
      exact this
theorem cellsSets_one (l : List St) : ∀ u ∈ cellsSets l, u.oneCell' = true := by
  intro u hu
  simp only [cellsSets, List.mem_flatMap, cellsSt, List.mem_cons, List.mem_nil_iff, or_false] at hu
  obtain ⟨a, _, rfl | rfl | rfl | rfl⟩ := hu <;> rfl

/-- A row of sets reads as l. -/
def Ro (w : World) (B : Nat) (v : Value) (l : List St) : Prop := Sl w B 4 v l.length (cellsSets l)
/-- Rows read as ls. -/
def Rws (w : World) (B : Nat) (v : Value) (ls : List (List St)) : Prop :=
  ∃ vs : List Value, Sl w B 1 v ls.length vs ∧ ∀ (i : Nat) (l : List St), ls[i]? = some l → ∃ u, vs[i]? = some u ∧ Ro w B u l
section
variable {w w' : World} {B B' : Nat} {v : Value} {l : List St} {ls : List (List St)}
theorem Ro.below (h : Ro w B v l) (hb : Below B w w') : Ro w' B v l := Sl.below h hb
theorem Ro.more (h : Ro w B v l) (hB : B ≤ B') : Ro w B' v l := Sl.more h hB
theorem Ro.form (h : Ro w B v l) : ∃ (A : Option Addr) (c : Nat), v = .slice A l.length c ∧ l.length ≤ c ∧ c ≤ maxLen := by
  obtain ⟨A, c, hv, h1, h2, _⟩ := h
  exact ⟨A, c, hv, h1, h2⟩
theorem Ro.at_ {A : Option Addr} {n c k : Nat} (h : Ro w B (.slice A n c) l) (hk : k < l.length) : ∃ b off : Nat, A = some ⟨b, off, none⟩ ∧ b < B ∧ ∀ j, j < 4 → w.cell? ⟨b, off + k * 4 + j, none⟩ = some (.int .u64 (l[k] j : Int)) := by
  obtain ⟨A', c', hv, h1, h2, h3, h4⟩ := h
  injection hv with e1 e2 e3
  subst e1
  obtain ⟨b, off, hA, hb, hc⟩ := h4 (by omega)
  exact ⟨b, off, hA, hb, fun j hj => by rw [Nat.add_assoc]; exact hc _ _ (cellsSets_at l k j hk hj)⟩
theorem Rws.below (h : Rws w B v ls) (hb : Below B w w') : Rws w' B v ls := by
  obtain ⟨vs, h1, h2⟩ := h
  refine ⟨vs, h1.below hb, fun i l hl => ?_⟩
  obtain ⟨u, hu, ht⟩ := h2 i l hl
  exact ⟨u, hu, ht.below hb⟩
theorem Rws.more (h : Rws w B v ls) (hB : B ≤ B') : Rws w B' v ls := by
  obtain ⟨vs, h1, h2⟩ := h
  refine ⟨vs, h1.more hB, fun i l hl => ?_⟩
  obtain ⟨u, hu, ht⟩ := h2 i l hl
  exact ⟨u, hu, ht.more hB⟩
theorem Rws.form (h : Rws w B v ls) : ∃ (A : Option Addr) (c : Nat), v = .slice A ls.length c ∧ ls.length ≤ c ∧ c ≤ maxLen := by
  obtain ⟨vs, ⟨A, c, hv, h1, h2, _⟩, _⟩ := h
  exact ⟨A, c, hv, h1, h2⟩
theorem Rws.at_ {A : Option Addr} {n c k : Nat} (h : Rws w B (.slice A n c) ls) (hk : k < ls.length) :
    ∃ (b off : Nat) (u : Value), A = some ⟨b, off, none⟩ ∧ b < B ∧ w.cell? ⟨b, off + k, none⟩ = some u ∧ Ro w B u ls[k] := by
  obtain ⟨vs, ⟨A', c', hv, h1, h2, h3, h4⟩, h5⟩ := h
  injection hv with e1 e2 e3
  subst e1
  obtain ⟨b, off, hA, hb, hc⟩ := h4 (by omega)
  obtain ⟨u, hu, ht⟩ := h5 k _ (List.getElem?_eq_getElem hk)
  exact ⟨b, off, u, hA, hb, hc _ _ hu, ht⟩
end

/-- The rows that rows is making: those that are done, and the last one, which has a block of its own. -/
def RowsMade (w : World) (base : Nat) (o : Value) (ini : List (List St)) (ivs : List Value) (last : List St) (u : Value) : Prop :=
  ivs.length = ini.length ∧ w.ownsRow base 117 1 o (ini.length + 1) (ivs ++ [u]) ∧
  (∀ (i : Nat) (l : List St), ini[i]? = some l → ∃ x, ivs[i]? = some x ∧ w.ownsRow base 120 4 x l.length (cellsSets l) ∧ (x.ownBlock = none ∨ x.ownBlock ≠ u.ownBlock)) ∧
  w.ownsRow base 120 4 u last.length (cellsSets last) ∧ (∀ x ∈ ivs ++ [u], x.oneCell' = true)
theorem RowsMade.below {w w' : World} {base : Nat} {o : Value} {ini : List (List St)} {ivs : List Value} {last : List St} {u : Value} (h : RowsMade w base o ini ivs last u) (hb : Below w.heap.size w w') : RowsMade w' base o ini ivs last u := by
  obtain ⟨h1, h2, h3, h4, h5⟩ := h
  exact ⟨h1, own_below h2 hb, fun i l hl => by obtain ⟨x, hx, hr, hn⟩ := h3 i l hl; exact ⟨x, hx, own_below hr hb, hn⟩, own_below h4 hb, h5⟩
theorem RowsMade.read {w : World} {base : Nat} {o : Value} {ini : List (List St)} {ivs : List Value} {last : List St} {u : Value} (h : RowsMade w base o ini ivs last u) : Rws w w.heap.size o (ini ++ [last]) := by
  obtain ⟨h1, h2, h3, h4, _⟩ := h
  refine ⟨ivs ++ [u], by rw [List.length_append]; exact Sl.of_own h2, fun i l hl => ?_⟩
  rcases Nat.lt_or_ge i ini.length with hi | hi
  · rw [List.getElem?_append_left hi] at hl
    obtain ⟨x, hx, hr, _⟩ := h3 i l hl
    exact ⟨x, by rw [List.getElem?_append_left (by omega)]; exact hx, Sl.of_own hr⟩
  · rw [List.getElem?_append_right hi] at hl
    rcases Nat.eq_zero_or_pos (i - ini.length) with h0 | h0
    · rw [h0] at hl
      injection hl with hl
      subst hl
      exact ⟨u, by rw [List.getElem?_append_right (by omega), show i - ivs.length = 0 by omega]; rfl, Sl.of_own h4⟩
    · rw [List.getElem?_eq_none (by simp; omega)] at hl; cases hl
theorem rowsMade_first (w : World) : RowsMade (w.alloc (.cells #[.slice none 0 0] 117)) w.heap.size (.slice (some ⟨w.heap.size, 0, none⟩) 1 1) [] [] [] (.slice none 0 0) := by
  refine ⟨rfl, ?_, by simp, World.ownsRow_nil _ _ _ _, by simp [Value.oneCell']⟩
  exact World.ownsRow_lit (base := w.heap.size) (e := 117) (size := 1) w #[.slice none 0 0] 1 (Nat.le_refl _) (by decide) rfl

theorem infoRow : (Tryd.prog.info? 117).map (fun i => (i.zero, i.size, i.bytes)) = some (some (.slice none 0 0), 1, 24) := by kernel_rfl
theorem infoSet : (Tryd.prog.info? 120).map (fun i => (i.zero, i.size, i.bytes)) = some (some (.agg #[.int .u64 0, .int .u64 0, .int .u64 0, .int .u64 0]), 4, 32) := by kernel_rfl

theorem rowsMade_star {W w1 : World} {base : Nat} {o v' : Value} {ini : List (List St)} {ivs : List Value} {last : List St} {u : Value} (h : RowsMade W base o ini ivs last u)
    (hown : w1.ownsRow base 117 1 v' (ini.length + 1 + 1) (ivs ++ [u] ++ [.slice none 0 0])) (hg : W.grownBy w1 o.ownBlock) : RowsMade w1 base v' (ini ++ [last]) (ivs ++ [u]) [] (.slice none 0 0) := by
  obtain ⟨h1, h2, h3, h4, h5⟩ := h
  refine ⟨by simp [h1], by rw [List.length_append]; exact hown, fun i l hl => ?_, World.ownsRow_nil _ _ _ _, fun x hx => ?_⟩
  · rcases Nat.lt_or_ge i ini.length with hi | hi
    · rw [List.getElem?_append_left hi] at hl
      obtain ⟨x, hx, hr, _⟩ := h3 i l hl
      refine ⟨x, by rw [List.getElem?_append_left (by omega)]; exact hx, hr.kept hg (own_own_ne hr h2 (by decide)), ?_⟩
      cases x.ownBlock <;> simp [Value.ownBlock]
    · rw [List.getElem?_append_right hi] at hl
      rcases Nat.eq_zero_or_pos (i - ini.length) with h0 | h0
      · rw [h0] at hl
        injection hl with hl
        subst hl
        refine ⟨u, by rw [List.getElem?_append_right (by omega), show i - ivs.length = 0 by omega]; rfl, h4.kept hg (own_own_ne h4 h2 (by decide)), ?_⟩
        cases u.ownBlock <;> simp [Value.ownBlock]
      · rw [List.getElem?_eq_none (by simp; omega)] at hl; cases hl
  · rcases List.mem_append.1 hx with hx | hx
    · exact h5 x hx
    · rw [List.mem_singleton.1 hx]; rfl
end Go.Proofs.YtmoihdddmeienaaDoor
