/-
  A copy of an expression that is being made: its Kids so far, in a row of the call's own. No walk in it.
-/
import Derived.Test.YtlijlgbaikijnaaGreatDoorSmKids
namespace Go.Proofs.YtlijlgbaikijnaaGreatDoor
open Go Go.RowKit

/-- A function of an expression that makes one anew, in memory of its own. -/
def Copies (f : Nat) (x y : E) : Prop := ∀ (v : Value) (ok : Nat → Prop) (w : World), ExR w ok x v → (∀ g, ok g → g < w.heap.size) →
  Calls Tryz.prog f #[v] w fun e w' => (∃ u, e = .returned u ∧ ExR w' (fun g => w.heap.size ≤ g ∧ g < w'.heap.size) y u) ∧ w.grownBy w' none

def cellsK (vs : List (Array Value)) : List Value := vs.flatMap (·.toList)
theorem cellsK_len : ∀ {vs : List (Array Value)}, (∀ u ∈ vs, u.size = 4) → (cellsK vs).length = vs.length * 4
  | [], _ => rfl
  | u :: vs, h => by
    have h1 := h u (by simp)
    have h2 := cellsK_len (vs := vs) fun y hy => h y (by simp [hy])
    unfold cellsK at h2 ⊢
    rw [List.flatMap_cons, List.length_append, h2, List.length_cons, Array.length_toList, h1]
    omega
theorem cellsK_at : ∀ {vs : List (Array Value)}, (∀ u ∈ vs, u.size = 4) → ∀ (i : Nat) (h : i < vs.length) (j : Nat) (hj : j < vs[i].size), (cellsK vs)[i * 4 + j]? = some vs[i][j]
  | [], _, i, h, _, _ => by simp at h
  | u :: vs, h4, 0, _, j, hj => by
    simp only [List.getElem_cons_zero] at hj ⊢
    unfold cellsK
    rw [List.flatMap_cons, List.getElem?_append_left (by simpa using hj)]
    simp [hj]
  | u :: vs, h4, i + 1, h, j, hj => by
    simp only [List.getElem_cons_succ] at hj ⊢
    have h1 : u.toList.length = 4 := by rw [Array.length_toList]; exact h4 u (by simp)
    have h2 := cellsK_at (vs := vs) (fun y hy => h4 y (by simp [hy])) i (by simpa using h) j hj
    unfold cellsK at h2 ⊢
    rw [List.flatMap_cons, List.getElem?_append_right (by omega), h1, show (i + 1) * 4 + j - 4 = i * 4 + j by omega]
    exact h2
theorem cellsK_snoc (vs : List (Array Value)) (u : Array Value) : cellsK (vs ++ [u]) = cellsK vs ++ u.toList := by simp [cellsK]

/-- The Kids of a copy so far. -/
structure CopyK (w : World) (B : Nat) (ty : TypeId) (v : Value) (l : List E) (vs : List (Array Value)) : Prop where
  len : vs.length = l.length
  four : ∀ u ∈ vs, u.size = 4
  own : w.ownsRow B ty 4 v l.length (cellsK vs)
  kid : ∃ ok : Nat → Prop, (∀ g, ok g → B ≤ g ∧ g < w.heap.size ∧ v.ownBlock ≠ some g) ∧ ∀ (i : Nat) (h : i < l.length) (h2 : i < vs.length), ExR w ok l[i] (.agg vs[i])

theorem CopyK.nil (w : World) (B : Nat) (ty : TypeId) : CopyK w B ty (.slice none 0 0) [] [] :=
  ⟨rfl, by simp, World.ownsRow_nil _ _ _ _, fun _ => False, by simp, by simp⟩
theorem own_keep {w w' : World} {B : Nat} {ty : TypeId} {size n : Nat} {v : Value} {xs : List Value} (h : w.ownsRow B ty size v n xs) (hk : ∀ g, B ≤ g → g < w.heap.size → w'.heap[g]? = w.heap[g]?) : w'.ownsRow B ty size v n xs := by
  obtain ⟨h1, h2⟩ := h
  refine ⟨h1, ?_⟩
  rcases h2 with h | ⟨g, cap, cur, hv, hb, hg, r⟩
  · exact .inl h
  · exact .inr ⟨g, cap, cur, hv, hb, by rw [hk g hb (Array.getElem?_eq_some_iff.1 hg).1]; exact hg, r⟩
theorem CopyK.keep {w w' : World} {B : Nat} {ty : TypeId} {v : Value} {l : List E} {vs : List (Array Value)} (h : CopyK w B ty v l vs) (hk : ∀ g, B ≤ g → g < w.heap.size → w'.heap[g]? = w.heap[g]?) (hs : w.heap.size ≤ w'.heap.size) : CopyK w' B ty v l vs := by
  obtain ⟨h1, h2, h3, ok, h4, h5⟩ := h
  refine ⟨h1, h2, own_keep h3 hk, ok, fun g hg => ?_, fun i hi hi2 => (h5 i hi hi2).keep (fun g h => h) fun g hg => hk g (h4 g hg).1 (h4 g hg).2.1⟩
  have := h4 g hg
  exact ⟨this.1, by omega, this.2.2⟩
theorem CopyK.grown {w w' : World} {B : Nat} {ty : TypeId} {v : Value} {l : List E} {vs : List (Array Value)} (h : CopyK w B ty v l vs) (hg : w.grownBy w' none) : CopyK w' B ty v l vs :=
  h.keep (fun g _ hl => hg.block g hl (by simp)) hg.size
theorem CopyK.set {w : World} {B : Nat} {ty : TypeId} {v : Value} {l : List E} {vs : List (Array Value)} (h : CopyK w B ty v l vs) {b j : Nat} (hb : b < B) (u : Value) : CopyK (w.setCell ⟨b, j, none⟩ u) B ty v l vs :=
  h.keep (fun g hg _ => heap_setCell_other w ⟨b, j, none⟩ g u (by show g ≠ b; omega)) (by simp [World.setCell])
theorem CopyK.snoc {w w3 : World} {B : Nat} {ty : TypeId} {v : Value} {l : List E} {vs : List (Array Value)} (h : CopyK w B ty v l vs) {x : E} {u : Array Value} {okk : Nat → Prop} {g cap : Nat} (hu : u.size = 4) (hx : ExR w okk x (.agg u))
    (hok : ∀ g, okk g → B ≤ g ∧ g < w.heap.size ∧ v.ownBlock ≠ some g) (hown : w3.ownsRow B ty 4 (.slice (some ⟨g, 0, none⟩) (l.length + 1) cap) (l.length + 1) (cellsK vs ++ u.toList)) (hgrow : w.grownBy w3 v.ownBlock) (hat : v.ownBlock = some g ∨ g = w.heap.size) :
    CopyK w3 B ty (.slice (some ⟨g, 0, none⟩) (l.length + 1) cap) (l ++ [x]) (vs ++ [u]) := by
  obtain ⟨h1, h2, h3, ok, h4, h5⟩ := h
  have hne : ∀ k, (ok k ∨ okk k) → B ≤ k ∧ k < w.heap.size ∧ v.ownBlock ≠ some k := fun k hk => hk.elim (h4 k) (hok k)
  refine ⟨by simp [h1], fun y hy => ?_, ?_, fun k => ok k ∨ okk k, fun k hk => ?_, fun i hi hi2 => ?_⟩
  · rcases List.mem_append.1 hy with hy | hy
    · exact h2 y hy
    · simp at hy; subst hy; exact hu
  · rw [cellsK_snoc, List.length_append]
    exact hown
  · have h := hne k hk
    refine ⟨h.1, Nat.lt_of_lt_of_le h.2.1 hgrow.size, ?_⟩
    intro e
    have e : g = k := Option.some.inj e
    rcases hat with h' | h'
    · exact h.2.2 (by rw [h', e])
    · omega
  · have hkeep : ∀ k, (ok k ∨ okk k) → w3.heap[k]? = w.heap[k]? := fun k hk => hgrow.block k (hne k hk).2.1 (fun e => (hne k hk).2.2 e.symm)
    rcases Nat.lt_or_ge i l.length with h' | h'
    · have e1 : (l ++ [x])[i] = l[i] := List.getElem_append_left h'
      have e2 : (vs ++ [u])[i] = vs[i]'(by omega) := List.getElem_append_left (by omega)
      rw [e1, e2]
      exact (h5 i h' (by omega)).keep (fun k hk => .inl hk) fun k hk => hkeep k (.inl hk)
    · have hi3 : i = l.length := by simp at hi; omega
      subst hi3
      have e1 : (l ++ [x])[l.length] = x := by simp
      have e2 : (vs ++ [u])[l.length] = u := by simp [← h1]
      rw [e1, e2]
      exact hx.keep (fun k hk => .inr hk) fun k hk => hkeep k (.inr hk)
/-- The copy that is made. -/
theorem CopyK.fin {w : World} {B : Nat} {ty : TypeId} {v : Value} {l : List E} {vs : List (Array Value)} (h : CopyK w B ty v l vs) {b : Nat} (hb : b ≤ B) (op name : List UInt8) (num : Int) :
    ExR w (fun g => b ≤ g ∧ g < w.heap.size) (.mk op num name l) (.agg (exC op num name v)) := by
  obtain ⟨h1, h2, h3, ok, h4, h5⟩ := h
  obtain ⟨hl, h6⟩ := h3
  unfold ExR
  rcases h6 with ⟨rfl, h0⟩ | ⟨g, cap, cur, rfl, hbg, hg, hc, hm, hs, ht⟩
  · obtain rfl := List.eq_nil_of_length_eq_zero h0
    exact ⟨none, 0, rfl, Nat.le_refl _, Nat.zero_le _, .inl rfl⟩
  · refine ⟨_, cap, rfl, hc, hm, .inr ⟨g, 0, rfl, ⟨by omega, (Array.getElem?_eq_some_iff.1 hg).1⟩, kidsR_of l 0 fun i hi => ?_⟩⟩
    have hi2 : i < vs.length := by omega
    refine ⟨vs[i], h2 _ (List.getElem_mem hi2), fun j hj => ?_, (h5 i hi hi2).keep (fun k hk => ⟨by have := (h4 k hk).1; omega, (h4 k hk).2.1⟩) fun _ _ => rfl⟩
    have hj4 : j < 4 := by rw [← h2 _ (List.getElem_mem hi2)]; exact hj
    have := cellsK_at h2 i hi2 j hj
    rw [← ht, List.getElem?_take_of_lt (by omega), Array.getElem?_toList] at this
    rw [cell_of_row w g _ _ _ _ hg, Nat.zero_add]
    exact this
theorem CopyK.form {w : World} {B : Nat} {ty : TypeId} {v : Value} {l : List E} {vs : List (Array Value)} (h : CopyK w B ty v l vs) : ∃ (A : Option Addr) (cap : Nat), v = .slice A l.length cap := by
  obtain ⟨_, h6⟩ := h.own
  rcases h6 with ⟨rfl, h0⟩ | ⟨g, cap, cur, rfl, _⟩
  · exact ⟨none, 0, by rw [h0]⟩
  · exact ⟨_, cap, rfl⟩
theorem grown_over {a w W : World} {r : Option Nat} (h : a.grownBy w none) (k : w.grownBy W r) (hr : ∀ g, r = some g → a.heap.size ≤ g) : a.grownBy W none :=
  ⟨k.os.trans h.os, k.tape.trans h.tape, k.output.trans h.output, Nat.le_trans h.size k.size, fun i hi _ => (k.block i (Nat.lt_of_lt_of_le hi h.size) (fun e => by have := hr i e.symm; omega)).trans (h.block i hi (by simp))⟩
/-- In the midst of a copy: the expression's own variable, the result, the copy. -/
structure CpSt (w wr : World) (z : Nat) (tb ty : TypeId) (bx : Array Value) (y0 y1 y2 vK : Value) (l : List E) (vs : List (Array Value)) : Prop where
  r0 : wr.heap[z]? = some (.cells bx tb (0, 0))
  r1 : wr.heap[z + 1]? = some (.cells #[.string ⟨#[]⟩, .int .i64 0, .string ⟨#[]⟩, .slice none 0 0] ty (0, 0))
  r2 : wr.heap[z + 2]? = some (.cells #[y0, y1, y2, vK] ty (0, 0))
  cp : CopyK wr (z + 3) ty vK l vs
  gr : w.grownBy wr none
  zz : w.heap.size = z
theorem cpSt_new (w : World) (tb ty : TypeId) (bx : Array Value) (y0 y1 y2 : Value) :
    CpSt w (((w.alloc (.cells bx tb)).alloc (.cells #[.string ⟨#[]⟩, .int .i64 0, .string ⟨#[]⟩, .slice none 0 0] ty)).alloc (.cells #[y0, y1, y2, .slice none 0 0] ty)) w.heap.size tb ty bx y0 y1 y2 (.slice none 0 0) [] [] := by
  have s1 : (w.alloc (.cells bx tb)).heap.size = w.heap.size + 1 := by simp
  have s2 : ((w.alloc (.cells bx tb)).alloc (.cells #[.string ⟨#[]⟩, .int .i64 0, .string ⟨#[]⟩, .slice none 0 0] ty)).heap.size = w.heap.size + 2 := by simp
  refine ⟨?_, ?_, ?_, CopyK.nil _ _ _, grownBy_trans' (grownBy_trans' (World.grownBy_alloc _ _ _) (World.grownBy_alloc _ _ _)) (World.grownBy_alloc _ _ _), rfl⟩
  · rw [Below.heap_alloc _ _ _ (by omega), Below.heap_alloc _ _ _ (by omega)]
    exact heap_alloc_new w _
  · rw [Below.heap_alloc _ _ _ (by omega)]
    have := heap_alloc_new (w.alloc (.cells bx tb)) (.cells #[.string ⟨#[]⟩, .int .i64 0, .string ⟨#[]⟩, .slice none 0 0] ty)
    rwa [s1] at this
  · have := heap_alloc_new ((w.alloc (.cells bx tb)).alloc (.cells #[.string ⟨#[]⟩, .int .i64 0, .string ⟨#[]⟩, .slice none 0 0] ty)) (.cells #[y0, y1, y2, .slice none 0 0] ty)
    rwa [s2] at this
section
variable {w wr : World} {z : Nat} {tb ty : TypeId} {bx : Array Value} {y0 y1 y2 vK : Value} {l : List E} {vs : List (Array Value)}
theorem CpSt.sz (h : CpSt w wr z tb ty bx y0 y1 y2 vK l vs) : z + 3 ≤ wr.heap.size := by
  have := (Array.getElem?_eq_some_iff.1 h.r2).1
  omega
theorem CpSt.app (h : CpSt w wr z tb ty bx y0 y1 y2 vK l vs) {w1 W2 w3 : World} {x : E} {u : Array Value} {g cap : Nat} (h1 : wr.grownBy w1 none) (h2 : w1.grownBy W2 none) (hu4 : u.size = 4)
    (hx : ExR w1 (fun g => wr.heap.size ≤ g ∧ g < w1.heap.size) x (.agg u)) (hown : w3.ownsRow (z + 3) ty 4 (.slice (some ⟨g, 0, none⟩) (l.length + 1) cap) (l.length + 1) (cellsK vs ++ u.toList))
    (hgrow : W2.grownBy w3 vK.ownBlock) (hat : vK.ownBlock = some g ∨ g = W2.heap.size) :
    w3.heap[z]? = some (.cells bx tb (0, 0)) ∧ w3.heap[z + 2]? = some (.cells #[y0, y1, y2, vK] ty (0, 0)) ∧ (∀ k, k < w.heap.size → w3.heap[k]? = wr.heap[k]?) ∧
    CpSt w (w3.setCell ⟨z + 2, 3, none⟩ (.slice (some ⟨g, 0, none⟩) (l.length + 1) cap)) z tb ty bx y0 y1 y2 (.slice (some ⟨g, 0, none⟩) (l.length + 1) cap) (l ++ [x]) (vs ++ [u]) := by
  have h12 := grownBy_trans' h1 h2
  have hlt := h.cp.own.lt
  have hsz := h.sz
  have hzz := h.zz
  have hs1 := h1.size
  have hs2 := h2.size
  have hne : ∀ k, k < z + 3 → some k ≠ vK.ownBlock := fun k hk e => by have := (hlt k e.symm).1; omega
  have hkeep : ∀ k, k < z + 3 → w3.heap[k]? = wr.heap[k]? := fun k hk => (hgrow.block k (by omega) (hne k hk)).trans (h12.block k (by omega) (by simp))
  have hgE : w.grownBy w3 none := grown_over (grownBy_trans' h.gr h12) hgrow fun k e => by have := (hlt k e).1; omega
  have hck := (h.cp.grown h12).snoc hu4 (hx.keep (fun k hk => hk) (fun k hk => h2.block k hk.2 (by simp))) (fun k hk => ⟨by omega, by omega, fun e => by have := (hlt k e).2; omega⟩) hown hgrow hat
  refine ⟨(hkeep z (by omega)).trans h.r0, (hkeep _ (by omega)).trans h.r2, fun k hk => hkeep k (by omega), ?_, ?_, ?_, hck.set (by omega) _, ?_, hzz⟩
  · rw [heap_setCell_other w3 ⟨z + 2, 3, none⟩ z _ (by show z ≠ z + 2; omega)]
    exact (hkeep z (by omega)).trans h.r0
  · rw [heap_setCell_other w3 ⟨z + 2, 3, none⟩ (z + 1) _ (by show z + 1 ≠ z + 2; omega)]
    exact (hkeep _ (by omega)).trans h.r1
  · exact heap_setCell_same w3 (z + 2) 3 _ _ _ ((hkeep _ (by omega)).trans h.r2)
  · exact grown_over hgE (grownBy_setC w3 (z + 2) 3 _) fun k e => by cases e; omega
end
end Go.Proofs.YtlijlgbaikijnaaGreatDoor
